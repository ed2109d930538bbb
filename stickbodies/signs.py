"""The signs of a cut, 0 or 1 for each three sticks, and which of them go together."""

from stickbodies.errors import BadCut
from stickbodies.errors import BadMany
from stickbodies.sticks import is_number


def is_count(value, most):
    """Whether whatever is handed in is a count from 1 up to the most."""
    return is_number(value) and 1 <= value <= most


def threes(many):
    """Each three of so many sticks, a rising list of places, in the order of lists."""
    return [[i, j, k] for i in range(many) for j in range(i + 1, many) for k in range(j + 1, many)]


def fours(many):
    """Each four of so many sticks, a rising list of places, in the order of lists."""
    return [[*three, last] for three in threes(many) for last in range(three[2] + 1, many)]


def is_four(many, value):
    """Whether whatever is handed in is a list of four rising places of so many sticks."""
    return isinstance(value, list) and all([is_number(place) for place in value]) and value in fours(many)


def threes_of_four(four):
    """The threes of four rising sticks, in the order in which their signs are looked over."""
    i, j, k, last = four
    return [[i, j, k], [i, j, last], [i, k, last], [j, k, last]]


def is_sign(value):
    """Whether whatever is handed in is 0 or 1."""
    return is_number(value) and 0 <= value <= 1


def are_signs(many, value):
    """Whether whatever is handed in is a list of a sign for each three of so many sticks."""
    if not isinstance(value, list) or len(value) != len(threes(many)):
        return False
    return all([is_sign(sign) for sign in value])


def signs_by_three(many, signs):
    """The sign of each three, by the tuple of its places."""
    return {tuple(three): sign for three, sign in zip(threes(many), signs)}


def changes(row):
    """How many neighbours in a row of signs are different."""
    return len([at for at in range(1, len(row)) if row[at - 1] != row[at]])


def signs_of_four(found, four):
    """The signs of four rising sticks, in order, of those found by three."""
    return [found[tuple(three)] for three in threes_of_four(four)]


def breaks(many, signs, four):
    """Whether the signs of four rising sticks change more than once."""
    return changes(signs_of_four(signs_by_three(many, signs), four)) > 1


def broken_four(many, signs):
    """The first four sticks whose signs change more than once, or None if the signs go together."""
    found = signs_by_three(many, signs)
    for four in fours(many):
        if changes(signs_of_four(found, four)) > 1:
            return four
    return None


def go_together(many, signs):
    """Whether the signs of each four sticks change once at the most."""
    return broken_four(many, signs) is None


def check_many(value, most):
    """Refuse whatever is handed in as a count of sticks and is none from 1 up to the most."""
    if not is_count(value, most):
        raise BadMany("no count of sticks")


def check_signs(many, value):
    """Refuse whatever is handed in as signs and is no list of a sign for each three."""
    if not are_signs(many, value):
        raise BadCut("no list of a sign, 0 or 1, for each three sticks")


def check_cut(many, value):
    """Refuse whatever is handed in as a cut and is no list of signs that go together."""
    check_signs(many, value)
    if not go_together(many, value):
        raise BadCut("signs that don't go together")
