"""Flips of three sticks of a cut, and the fewest of them from cut to cut."""

from stickbodies.cuts import MOST_GONE_THROUGH
from stickbodies.cuts import cuts
from stickbodies.errors import BadThree
from stickbodies.signs import check_cut
from stickbodies.signs import check_many
from stickbodies.signs import go_together
from stickbodies.signs import threes
from stickbodies.sticks import MOST_STICKS
from stickbodies.sticks import is_number


def turned(cut, place):
    """The signs of the cut with that at a place turned."""
    return cut[:place] + [1 - cut[place]] + cut[place + 1:]


def loose_threes(many, cut):
    """The threes of a cut that can be flipped, in the order of lists."""
    return [three for place, three in enumerate(threes(many)) if go_together(many, turned(cut, place))]


def is_loose(many, cut, value):
    """Whether whatever is handed in is three sticks of a cut that can be flipped."""
    # True would be found among the threes, where Python takes it for 1.
    if not isinstance(value, list) or not all([is_number(place) for place in value]):
        return False
    return value in loose_threes(many, cut)


def flips_to(many, one, other):
    """The fewest flips that lead the one cut to the other, which is gone out from until the one is met."""
    whole = {tuple(cut): True for cut in cuts(many)}
    flips = {tuple(other): []}
    met = [other]
    at = 0
    while tuple(one) not in flips:
        for place, three in enumerate(threes(many)):
            farther = turned(met[at], place)
            if tuple(farther) in whole and tuple(farther) not in flips:
                # A flip made again is taken back, so that it leads the other way, too.
                flips[tuple(farther)] = [three] + flips[tuple(met[at])]
                met.append(farther)
        at += 1
    return flips[tuple(one)]


def loose(many, cut):
    """The threes of a cut that can be flipped, in the order of lists."""
    check_many(many, MOST_STICKS)
    check_cut(many, cut)
    return loose_threes(many, cut)


def flipped(many, cut, three):
    """The cut with three sticks flipped."""
    check_many(many, MOST_STICKS)
    check_cut(many, cut)
    if not is_loose(many, cut, three):
        raise BadThree("no rising list of three sticks that can be flipped")
    return turned(cut, threes(many).index(three))


def led(many, one, other):
    """The fewest flips that lead the one cut to the other, one behind the other."""
    check_many(many, MOST_GONE_THROUGH)
    check_cut(many, one)
    check_cut(many, other)
    return flips_to(many, one, other)
