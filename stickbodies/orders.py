"""Exchanges of neighbours in the row of all sticks, which go over a cut."""

from stickbodies.cuts import sticks_at_feet
from stickbodies.errors import BadPlaces
from stickbodies.signs import check_cut
from stickbodies.signs import check_many
from stickbodies.signs import threes
from stickbodies.sticks import MOST_STICKS
from stickbodies.sticks import is_number
from stickbodies.sticks import twos


def exchanged(row, at):
    """The row with the two neighbours at a place exchanged."""
    return row[:at] + [row[at + 1], row[at]] + row[at + 2:]


def next_places(feet, row):
    """The places in the row at which two neighbours can be exchanged next, by the sticks at the feet of a cut."""
    told = []
    for at in range(len(row) - 1):
        # Two are exchanged just when those that stand ahead of them lead to the foot of their slab.
        if row[at] < row[at + 1] and sorted(row[:at]) == feet[(row[at], row[at + 1])]:
            told.append(at)
    return told


def gone_on(feet, ways_to):
    """In how many ways each row is come to by one more exchange, of those told of the rows so far."""
    told = {}
    for row in ways_to:
        for at in next_places(feet, list(row)):
            farther = tuple(exchanged(list(row), at))
            told[farther] = told.get(farther, 0) + ways_to[row]
    return told


def can_exchange(row, value):
    """Whether whatever is handed in is the place of two neighbours in the row, the lesser ahead."""
    return is_number(value) and 0 <= value < len(row) - 1 and row[value] < row[value + 1]


def order_by_two(many, places):
    """When each two sticks are exchanged, by the tuple of both, or None if that is no such list of exchanges."""
    row = list(range(many))
    told = {}
    for step, at in enumerate(places):
        if not can_exchange(row, at):
            return None
        told[(row[at], row[at + 1])] = step
        row = exchanged(row, at)
    return told if len(told) == len(twos(many)) else None


def order_of(many, cut):
    """The first list of exchanges, in the order of lists, that goes over the cut."""
    check_many(many, MOST_STICKS)
    check_cut(many, cut)
    feet = sticks_at_feet(many, cut)
    row = list(range(many))
    told = []
    while len(told) < len(feet):
        # Whichever exchange is made first, some can always be made next, so that the first place is the best.
        at = next_places(feet, row)[0]
        told.append(at)
        row = exchanged(row, at)
    return told


def ways(many, cut):
    """How many lists of exchanges go over the cut."""
    check_many(many, MOST_STICKS)
    check_cut(many, cut)
    feet = sticks_at_feet(many, cut)
    ways_to = {tuple(range(many)): 1}
    while tuple(range(many))[::-1] not in ways_to:
        ways_to = gone_on(feet, ways_to)
    return sum(ways_to.values())


def cut_of(many, places):
    """The cut that exchanges go over."""
    check_many(many, MOST_STICKS)
    order = order_by_two(many, places) if isinstance(places, list) else None
    if order is None:
        raise BadPlaces("no list of exchanges by which each two sticks are exchanged once")
    return [0 if order[(i, j)] < order[(j, k)] else 1 for i, j, k in threes(many)]
