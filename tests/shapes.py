"""Sticks to ask about, and bodies looked at another way than the program does: as hulls of all sums of sticks."""

import itertools

SMALL = [
    [(1, 0)], [(3, 0)], [(0, 2)], [(2, 4)], [(-3, 1)], [(-2, 2)],
    [(2, 0), (1, 3)], [(1, 0), (0, 1)], [(2, 1), (1, 1)], [(3, 1), (-2, 2)], [(1, 0), (-3, 1)], [(1, 2), (-2, 4)],
    [(1, 0), (1, 1), (0, 1)], [(2, 0), (1, 3), (-2, 1)], [(3, 2), (2, 2), (-1, 1)], [(0, 1), (-1, 1), (-2, 1)],
    [(1, 0), (1, 1), (0, 1), (-1, 1)], [(2, 1), (2, 2), (0, 3), (-2, 2)],
    [(1, 0), (2, 1), (1, 1), (0, 1), (-1, 1)], [(2, 0), (1, 2), (-1, 2), (-2, 2), (-3, 1)],
    [(1, 0), (2, 1), (1, 1), (0, 1), (-1, 1), (-2, 1)], [(3, 1), (1, 1), (1, 2), (-1, 3), (-1, 1), (-2, 1)],
]
GREAT = [
    [(20, 0)], [(-20, 20)], [(20, 19), (19, 20)], [(20, 0), (-20, 1)], [(20, 1), (19, 1), (18, 1)],
    [(20, 0), (20, 20), (0, 20), (-20, 20)], [(20, 3), (17, 5), (1, 20), (-7, 19), (-20, 13)],
    [(19, 0), (20, 7), (6, 18), (0, 20), (-15, 10), (-20, 1)],
]


def turned(one, other):
    return one[0] * other[1] - one[1] * other[0]


def less(one, other):
    return (one[0] - other[0], one[1] - other[1])


def sums(sticks):
    """Where all of some of the sticks lead, whichever ones are taken."""
    return [(sum(x for x, y in some), sum(y for x, y in some))
            for many in range(len(sticks) + 1) for some in itertools.combinations(sticks, many)]


def half_hull(points):
    row = []
    for point in points:
        while len(row) > 1 and turned(less(row[-1], row[-2]), less(point, row[-1])) <= 0:
            row.pop()
        row.append(point)
    return row


def hull(sticks):
    """The corners of the body, round to the left."""
    points = sorted(set(sums(sticks)))
    return half_hull(points)[:-1] + half_hull(points[::-1])[:-1]


def sides(round_about):
    return list(zip(round_about, round_about[1:] + round_about[:1]))


def holds(round_about, point):
    """Whether a point is within a hull, whether it has an inside or not."""
    if any(turned(less(end, start), less(point, start)) < 0 for start, end in sides(round_about)):
        return False
    return all(min(c) <= at <= max(c) for at, c in zip(point, zip(*round_about)))


def on_rim(round_about, point):
    return holds(round_about, point) and any(
        turned(less(end, start), less(point, start)) == 0 for start, end in sides(round_about))


def room(round_about, more=2):
    """All whole points about a hull."""
    (left, right), (low, high) = [(min(c) - more, max(c) + more) for c in zip(*round_about)]
    return [(x, y) for x in range(left, right + 1) for y in range(low, high + 1)]
