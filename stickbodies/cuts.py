"""Cuts of a body to slabs: which are whole, where their slabs stand, and all of them."""

from stickbodies.answers import Broken
from stickbodies.answers import Whole
from stickbodies.errors import BadStick
from stickbodies.signs import broken_four
from stickbodies.signs import changes
from stickbodies.signs import check_cut
from stickbodies.signs import check_many
from stickbodies.signs import check_signs
from stickbodies.signs import fours
from stickbodies.signs import signs_by_three
from stickbodies.signs import threes
from stickbodies.signs import threes_of_four
from stickbodies.sticks import MOST_STICKS
from stickbodies.sticks import all_together
from stickbodies.sticks import check_sticks
from stickbodies.sticks import is_number
from stickbodies.sticks import twos

MOST_GONE_THROUGH = 5


def leads_to_foot(found, i, j, at):
    """Whether another stick leads to the foot of the slab of two rising sticks, by the signs found by three."""
    sign = found[tuple(sorted([i, j, at]))]
    if i < at < j:
        return sign == 0
    return sign == 1


def sticks_at_feet(many, cut):
    """The places of the sticks that lead to the foot of each slab, by the tuple of its two sticks."""
    found = signs_by_three(many, cut)
    told = {}
    for i, j in twos(many):
        others = [at for at in range(many) if at != i and at != j]
        told[(i, j)] = [at for at in others if leads_to_foot(found, i, j, at)]
    return told


def places_of_fours(many):
    """For each four sticks the places in a cut of their signs, rising."""
    place_of = {tuple(three): place for place, three in enumerate(threes(many))}
    return [[place_of[tuple(three)] for three in threes_of_four(four)] for four in fours(many)]


def may_go_on(signs, places):
    """Whether the signs so far, at the places of four sticks, change once at the most."""
    return changes([signs[place] for place in places if place < len(signs)]) <= 1


def all_cuts(many):
    """All cuts of so many sticks whose signs go together, in the order of lists."""
    rows = places_of_fours(many)
    grown = [[]]
    for last in range(len(threes(many))):
        met = [places for places in rows if last in places]
        tried = [[*signs, sign] for signs in grown for sign in (0, 1)]
        # Signs that change twice already are left out at once, so that few lists are tried.
        grown = [signs for signs in tried if all([may_go_on(signs, places) for places in met])]
    return grown


def judged(many, cut):
    """A Whole if the signs go together, or else a Broken with four sticks whose signs don't."""
    check_many(many, MOST_STICKS)
    check_signs(many, cut)
    four = broken_four(many, cut)
    if four is None:
        return Whole()
    return Broken(four)


def slabs(sticks, cut):
    """The slab of each two sticks: both places and the foot."""
    check_sticks(sticks)
    check_cut(len(sticks), cut)
    feet = sticks_at_feet(len(sticks), cut)
    return [(i, j, all_together([sticks[at] for at in feet[(i, j)]])) for i, j in twos(len(sticks))]


def cuts(many):
    """All cuts of so many sticks whose signs go together, in the order of lists."""
    check_many(many, MOST_GONE_THROUGH)
    return all_cuts(many)


def how_many(many):
    """How many cuts of so many sticks there are whose signs go together."""
    check_many(many, MOST_STICKS)
    return len(all_cuts(many))


def less(many, cut, stick):
    """The cut of all sticks but one."""
    check_many(many, MOST_STICKS)
    check_cut(many, cut)
    if many == 1 or not is_number(stick) or not 0 <= stick < many:
        raise BadStick("no place of a stick, or one stick alone")
    return [sign for three, sign in zip(threes(many), cut) if stick not in three]
