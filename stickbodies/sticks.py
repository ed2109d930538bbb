"""Numbers, points and sticks, and rows that are gathered to sticks."""

from stickbodies.errors import BadPoint
from stickbodies.errors import BadSticks

MOST_STICKS = 6
FARTHEST = 20


def is_number(value):
    """Whether whatever is handed in is a whole number."""
    # Python takes True and False for integers, the document does not.
    return isinstance(value, int) and not isinstance(value, bool)


def is_point(value):
    """Whether whatever is handed in is a pair of numbers."""
    return isinstance(value, tuple) and len(value) == 2 and is_number(value[0]) and is_number(value[1])


def is_near(value):
    """Whether whatever is handed in is a pair of numbers from -20 to 20."""
    return is_point(value) and abs(value[0]) <= FARTHEST and abs(value[1]) <= FARTHEST


def greatest_into(one, other):
    """The greatest number that goes into both numbers, of any sign; 0 if both are 0."""
    while other != 0:
        one, other = other, one % other
    return abs(one)


def span(one, other):
    """What two sticks span: above 0 if the other is farther round."""
    return one[0] * other[1] - one[1] * other[0]


def stands(stick):
    """Whether a stick leads up, or straight to the right."""
    return stick[1] > 0 or (stick[1] == 0 and stick[0] > 0)


def put_together(one, other):
    """Where two sticks lead, one behind the other."""
    return (one[0] + other[0], one[1] + other[1])


def taken_back(one, other):
    """Where a point or a stick leads with another one gone back."""
    return (one[0] - other[0], one[1] - other[1])


def longer(stick, times):
    """The stick that many times as long."""
    return (stick[0] * times, stick[1] * times)


def all_together(sticks):
    """Where all sticks lead, one behind the other."""
    led = (0, 0)
    for stick in sticks:
        led = put_together(led, stick)
    return led


def along(line, point):
    """How much a point has of a line: u times its first and v times its second number."""
    return line[0] * point[0] + line[1] * point[1]


def twos(many):
    """Each two of so many sticks, a rising list of places, in the order of lists."""
    return [[i, j] for i in range(many) for j in range(i + 1, many)]


def are_near(value):
    """Whether whatever is handed in is a list of 1 to 6 pairs of numbers from -20 to 20."""
    if not isinstance(value, list) or not 1 <= len(value) <= MOST_STICKS:
        return False
    return all([is_near(pair) for pair in value])


def are_rows(value):
    """Whether whatever is handed in is rows."""
    return are_near(value) and (0, 0) not in value


def are_sticks(value):
    """Whether whatever is handed in is sticks."""
    if not are_near(value) or not all([stands(stick) for stick in value]):
        return False
    # Standing sticks lie within half a turn, so that neighbours in order are all in order.
    return all([span(value[at - 1], value[at]) > 0 for at in range(1, len(value))])


def check_sticks(value):
    """Refuse whatever is handed in as sticks and is none."""
    if not are_sticks(value):
        raise BadSticks("no list of 1 to 6 standing sticks, each farther round, of numbers from -20 to 20")


def check_point(value):
    """Refuse whatever is handed in as a point and is none."""
    if not is_point(value):
        raise BadPoint("no pair of numbers")


def standing(row):
    """The row as a standing stick, turned about if need be."""
    if stands(row):
        return (row[0], row[1])
    return (-row[0], -row[1])


def sticks_with(sticks, stick):
    """The sticks and one more standing stick, which is put to the one along its line, if there is one."""
    ahead = [other for other in sticks if span(other, stick) > 0]
    level = [other for other in sticks if span(other, stick) == 0]
    behind = [other for other in sticks if span(other, stick) < 0]
    for other in level:
        stick = put_together(other, stick)
    return ahead + [stick] + behind


def gathered(rows):
    """The sticks whose body, moved, is all that shares of the rows lead to, and the point it is moved by."""
    if not are_rows(rows):
        raise BadSticks("no list of 1 to 6 pairs, not (0, 0), of numbers from -20 to 20")
    sticks = []
    moved = (0, 0)
    for row in rows:
        if not stands(row):
            moved = put_together(moved, row)
        sticks = sticks_with(sticks, standing(row))
    return (sticks, moved)
