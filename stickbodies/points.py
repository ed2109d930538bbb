"""Points within a body, told by shares, and points apart from it, told by a line that parts."""

from stickbodies.answers import Apart
from stickbodies.answers import Shares
from stickbodies.sticks import all_together
from stickbodies.sticks import along
from stickbodies.sticks import check_point
from stickbodies.sticks import check_sticks
from stickbodies.sticks import greatest_into
from stickbodies.sticks import span
from stickbodies.sticks import taken_back
from stickbodies.sticks import twos

NONE_OF_IT = (0, 1)
ALL_OF_IT = (1, 1)


def lowest(top, bottom):
    """A top from 0 on and a bottom above 0 in lowest terms."""
    by = greatest_into(top, bottom)
    return (top // by, bottom // by)


def shares_of_one(stick, point):
    """The share of one stick alone that leads to a point, as a list, or None if none does."""
    top = along(stick, point)
    bottom = along(stick, stick)
    if span(stick, point) != 0 or not 0 <= top <= bottom:
        return None
    return [lowest(top, bottom)]


def shares_by_two(sticks, i, j, point):
    """Shares of two sticks, and all of those between them, that lead to a point, or None if none do."""
    rest = taken_back(point, all_together(sticks[i + 1:j]))
    bottom = span(sticks[i], sticks[j])
    first = span(rest, sticks[j])
    second = span(sticks[i], rest)
    if not 0 <= first <= bottom or not 0 <= second <= bottom:
        return None
    shares = [ALL_OF_IT if i < at < j else NONE_OF_IT for at in range(len(sticks))]
    shares[i] = lowest(first, bottom)
    shares[j] = lowest(second, bottom)
    return shares


def shares_to(sticks, point):
    """Shares of the sticks that lead to a point, or None if it is not within the body."""
    if len(sticks) == 1:
        return shares_of_one(sticks[0], point)
    # The slabs of the cut whose signs are all 0 make up the body: each has its foot where those between lead.
    for i, j in twos(len(sticks)):
        shares = shares_by_two(sticks, i, j, point)
        if shares is not None:
            return shares
    return None


def lines_of(sticks):
    """The lines across each stick, both ways, one of which parts each point beyond a side, and those along it."""
    told = []
    for x, y in sticks:
        # A body of one stick has ends, which only the lines along it part from what is beyond them.
        told.extend([(y, -x), (-y, x), (x, y), (-x, -y)])
    return told


def parted(sticks, point):
    """An Apart of a point that is not within the body."""
    answers = [Apart(line) for line in lines_of(sticks)]
    return [answer for answer in answers if answer.shows(sticks, point)][0]


def within(sticks, point):
    """Shares of the sticks that lead to the point, or else a line that parts it from the body."""
    check_sticks(sticks)
    check_point(point)
    shares = shares_to(sticks, point)
    if shares is None:
        return parted(sticks, point)
    return Shares(shares)
