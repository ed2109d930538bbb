"""Cuts looked at another way than the program does: by all lists of signs, and by what stands ahead in a row."""

import itertools


def twos(many):
    return list(itertools.combinations(range(many), 2))


def threes(many):
    return list(itertools.combinations(range(many), 3))


def all_signs(many):
    """Every list of a sign for each three, whatever goes together."""
    return [list(row) for row in itertools.product((0, 1), repeat=len(threes(many)))]


def broken_fours(many, row):
    """All fours whose signs change more than once, in the order of lists."""
    sign = dict(zip(threes(many), row))
    return [list(four) for four in itertools.combinations(range(many), 4)
            if len(list(itertools.groupby(sign[three] for three in itertools.combinations(four, 3)))) > 2]


def with_turned(row, place):
    """The signs with that at a place turned."""
    return [sign ^ (at == place) for at, sign in enumerate(row)]


def rising(row):
    return [at for at in range(len(row) - 1) if row[at] < row[at + 1]]


def swap(row, at):
    row = list(row)
    row[at:at + 2] = row[at + 1], row[at]
    return row


def all_exchanges(many):
    """Every list of exchanges that turns the row about, in the order of lists."""
    def on_from(row):
        if not rising(row):
            yield []
        for at in rising(row):
            for rest in on_from(swap(row, at)):
                yield [at] + rest
    return list(on_from(list(range(many))))


def some_exchanges(many, lists):
    """So many lists of exchanges, chosen all over the place."""
    told = []
    for seed in range(lists):
        row, places, number = list(range(many)), [], seed * 7919 + 13
        while rising(row):
            number = (number * 1103515245 + 12345) % 2147483648
            at = rising(row)[(number >> 16) % len(rising(row))]
            places.append(at)
            row = swap(row, at)
        told.append(places)
    return told


def lists_of_exchanges(many):
    """All lists of exchanges of few sticks, and some of six."""
    return all_exchanges(many) if many < 6 else some_exchanges(many, 150)


def met(many, places):
    """Each two in the order in which they are exchanged, with those that stand ahead of them then."""
    row, told = list(range(many)), []
    for at in places:
        told.append(((row[at], row[at + 1]), sorted(row[:at])))
        row = swap(row, at)
    assert row == list(range(many))[::-1]
    return told


def gone_over(many, places):
    """The cut that exchanges go over."""
    order = [two for two, ahead in met(many, places)]
    return [0 if order.index((i, j)) < order.index((j, k)) else 1 for i, j, k in threes(many)]


def some_cuts(many):
    """All cuts of few sticks, and of six those of some exchanges, all signs 0 and all signs 1."""
    long = len(threes(many))
    gone = [gone_over(many, places) for places in lists_of_exchanges(many)]
    return [list(row) for row in sorted({tuple(row) for row in gone + [[0] * long, [1] * long]})]


def no_together(many):
    """Signs that don't go together: for each four some of which just this four breaks, and some of which more do."""
    alone, told = {}, []
    for cut in some_cuts(many):
        for place in range(len(cut)):
            row = with_turned(cut, place)
            bad = broken_fours(many, row)
            if len(bad) == 1:
                alone[tuple(bad[0])] = row
            elif bad and len(told) < 40:
                told.append(row)
    assert sorted(alone) == list(itertools.combinations(range(many), 4))
    return [alone[four] for four in sorted(alone)] + told
