"""Things of other kinds, which the tests hand in where numbers, pairs or lists are asked for."""


class Hostile:
    """An object that fails whatever it is asked."""

    def refuse(self, *args):
        raise RuntimeError("asked")

    __eq__ = __ne__ = __lt__ = __le__ = __gt__ = __ge__ = refuse
    __bool__ = __len__ = __iter__ = __getitem__ = __contains__ = refuse
    __str__ = __repr__ = __int__ = __index__ = __abs__ = __neg__ = refuse
    __hash__ = None


def no_numbers():
    return [None, True, False, "1", "", b"1", 1.0, 0.5, float("nan"), 1j, (), (1,), [], [1], {}, set(), object(),
            Hostile(), int, len]


def endless():
    """A list that holds itself."""
    row = []
    row.append(row)
    return row


# Sticks, to which one wrong thing is put, or of which one is put wrongly.
RIGHT = [(3, 0), (3, 1), (1, 1), (0, 1), (-1, 1)]


def no_pairs():
    """What is no pair of numbers."""
    yield from [None, True, False, 0, 1, -3, 1.5, "", "ab", b"ab", (), (1,), (1, 2, 3), [], [1, 2], endless()]
    yield from [{}, {1: 2, 3: 4}, {1, 2}, set(), range(2), ((1, 0), (0, 1)), [(1, 0)], object(), Hostile(), int, len]
    for stranger in no_numbers():
        yield (stranger, 1)
        yield (1, stranger)
        yield (stranger, stranger)


def no_lists():
    """What is no list."""
    return [None, True, False, 0, 1, -3, 1.5, "", "ab", b"", b"ab", (), (1, 0), ((1, 0), (0, 1)), {}, {(1, 0): (0, 1)},
            {(1, 0)}, frozenset([(1, 0)]), range(3), object(), Hostile(), list, len, iter([(1, 0)])]


def no_sticks():
    """What are no sticks: not in kind, not in length, not in one place, or not in turn."""
    yield from no_lists()
    yield from [[], endless(), [(20 - at, 1) for at in range(7)], [(1, 0)] * 7, [(20 - at, 1) for at in range(40)]]
    yield [(1, 0), (3, 1), (2, 1), (1, 1), (0, 1), (-1, 1), (-2, 1)]
    far = [(21, 0), (21, 1), (0, 21), (-21, 1), (-21, 21), (10 ** 5000, 1), (1, 10 ** 5000)]
    low = [(0, 0), (-1, 0), (-20, 0), (0, -1), (3, -1), (-3, -1), (21, -21), (1, -10 ** 5000)]
    for wrong in [*no_pairs(), *far, *low]:
        yield [wrong]
        for place in range(6):
            yield RIGHT[:place] + [wrong] + RIGHT[place:]
    yield from no_turn()


def no_turn():
    """Standing sticks of which one, at the first, a middle or the last place, is not farther round."""
    yield from [[(1, 1), (1, 0)], [(1, 1), (2, 2)], [(1, 1), (1, 1)], [(0, 1), (1, 1)], [(-1, 1), (1, 0)]]
    yield from [[(1, 0), (2, 0)], [(-2, 1), (-4, 2)], [(20, 19), (20, 18)], [(1, 0), (0, 1), (1, 1)]]
    for at in range(1, len(RIGHT)):
        yield RIGHT[:at - 1] + [RIGHT[at], RIGHT[at - 1]] + RIGHT[at + 1:]
        yield RIGHT[:at] + [RIGHT[at - 1]] + RIGHT[at:]
        yield RIGHT[:at] + [(2 * RIGHT[at - 1][0], 2 * RIGHT[at - 1][1])] + RIGHT[at:]
    # Each neighbour but the first is farther round, yet the last is not farther than the first.
    yield [(0, 1), (-1, 1), (5, 1), (4, 1), (3, 1)]
    yield RIGHT[::-1]


def no_times():
    """What is no number from 0 on."""
    return [-1, -2, -10 ** 5000, endless(), [0], (0, 1), (0,), *no_numbers()]


def no_counts(most):
    """What is no count of sticks from 1 up to the most."""
    return [0, -1, -2, most + 1, 7, 8, 10 ** 5000, -10 ** 5000, "a text", [3], (3,), endless(), *no_numbers()]


def no_signs(many):
    """What is no list of a sign for each three of so many sticks: not in kind, not in length, or not in one place."""
    long = many * (many - 1) * (many - 2) // 6
    yield from no_lists()
    yield from [[0] * (long + 1), [1] * (long + 1), [0] * (long + 5), [1] * 1000, endless(), [[]] * long + [[]]]
    yield from [(0,) * long, "0" * long, bytes(long), range(long), {at: 0 for at in range(long)}, iter([0] * long)]
    if long:
        yield from [[], [0] * (long - 1), [1] * (long - 1), [[0] * long], [[0]] * long]
    for wrong in [2, -1, 3, 10 ** 5000, -10 ** 5000, endless(), *no_numbers()]:
        for place in sorted({0, long // 2, long - 1} & set(range(long))):
            for sign in (0, 1):
                yield [sign] * place + [wrong] + [sign] * (long - place - 1)
