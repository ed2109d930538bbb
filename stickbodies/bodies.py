"""The body of sticks: its corners, its area, its middle and its whole points."""

from stickbodies.errors import BadTimes
from stickbodies.sticks import all_together
from stickbodies.sticks import along
from stickbodies.sticks import check_point
from stickbodies.sticks import check_sticks
from stickbodies.sticks import greatest_into
from stickbodies.sticks import is_number
from stickbodies.sticks import put_together
from stickbodies.sticks import span
from stickbodies.sticks import taken_back
from stickbodies.sticks import twos


def reach(sticks, line):
    """The most that a point of the body has of a line."""
    return sum([max(0, along(line, stick)) for stick in sticks])


def covered(sticks):
    """What each two sticks span, together."""
    return sum([span(sticks[i], sticks[j]) for i, j in twos(len(sticks))])


def steps(sticks):
    """How many steps from whole point to whole point all sticks have together."""
    return sum([greatest_into(stick[0], stick[1]) for stick in sticks])


def check_times(value):
    """Refuse whatever is handed in as times and is no number from 0 on."""
    if not is_number(value) or value < 0:
        raise BadTimes("no number from 0 on")


def corners(sticks):
    """The corners of the body, in turn, from (0, 0) on."""
    check_sticks(sticks)
    corner = (0, 0)
    told = [corner]
    for stick in sticks:
        corner = put_together(corner, stick)
        told.append(corner)
    # The last stick back would lead to (0, 0) again.
    for stick in sticks[:-1]:
        corner = taken_back(corner, stick)
        told.append(corner)
    return told


def area(sticks):
    """The area of the body."""
    check_sticks(sticks)
    return covered(sticks)


def opposite(sticks, point):
    """The point as far on the other side of the middle of the body."""
    check_sticks(sticks)
    check_point(point)
    return taken_back(all_together(sticks), point)


def whole_points(sticks, times):
    """How many whole points the body has, of sticks that many times as long."""
    check_sticks(sticks)
    check_times(times)
    return 1 + times * steps(sticks) + times * times * covered(sticks)


def rim_points(sticks, times):
    """How many whole points stand on the rim of the body, of sticks that many times as long."""
    check_sticks(sticks)
    check_times(times)
    if times == 0:
        return 1
    if len(sticks) == 1:
        return 1 + times * steps(sticks)
    return 2 * times * steps(sticks)
