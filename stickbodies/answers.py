"""What is told of a point and of a cut, which shows itself to be so."""

from stickbodies.bodies import reach
from stickbodies.signs import breaks
from stickbodies.signs import go_together
from stickbodies.signs import is_four
from stickbodies.sticks import along
from stickbodies.sticks import greatest_into
from stickbodies.sticks import is_point
from stickbodies.sticks import longer
from stickbodies.sticks import put_together


def is_share(value):
    """Whether a field's share is a pair of a top and a bottom in lowest terms, from (0, 1) to (1, 1)."""
    return is_point(value) and 0 <= value[0] <= value[1] and greatest_into(value[0], value[1]) == 1


def are_shares(many, value):
    """Whether a field is a list of a share for each of so many sticks."""
    if not isinstance(value, list) or len(value) != many:
        return False
    return all([is_share(share) for share in value])


def lead_to(sticks, shares, point):
    """Whether the shares of the sticks, put together, lead to the point."""
    whole = 1
    for share in shares:
        whole *= share[1]
    # All is taken as many times as the bottoms make together, so that whole numbers are compared.
    led = (0, 0)
    for stick, (top, bottom) in zip(sticks, shares):
        led = put_together(led, longer(stick, top * (whole // bottom)))
    return led == longer(point, whole)


class Answer:
    """One of two things that are told of sticks and a point, or of a count of sticks and signs."""


class Shares(Answer):
    """The point is within: shares of the sticks that lead there."""

    def __init__(self, shares):
        self.shares = list(shares)

    def shows(self, sticks, point):
        """Whether there is a share for each stick, in lowest terms, and they lead to the point."""
        return are_shares(len(sticks), self.shares) and lead_to(sticks, self.shares, point)


class Apart(Answer):
    """The point is not within: a line of which it has more than all points of the body."""

    def __init__(self, line):
        self.line = line

    def shows(self, sticks, point):
        """Whether the point has more of the line than all points of the body."""
        return is_point(self.line) and along(self.line, point) > reach(sticks, self.line)


class Whole(Answer):
    """The signs of the cut go together."""

    def shows(self, many, cut):
        """Whether the signs of each four sticks change once at the most."""
        return go_together(many, cut)


class Broken(Answer):
    """The signs of the cut don't go together: four sticks whose signs change more than once."""

    def __init__(self, four):
        self.four = list(four)

    def shows(self, many, cut):
        """Whether there are four rising places of sticks, and their signs change more than once."""
        return is_four(many, self.four) and breaks(many, cut, self.four)
