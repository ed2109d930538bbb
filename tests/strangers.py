"""Things of other kinds, which the tests hand in where numbers, pairs or lists are asked for."""


class Hostile:
    """An object that fails whatever it is asked."""

    def refuse(self, *args):
        raise RuntimeError("asked")

    __eq__ = __ne__ = __lt__ = __le__ = __gt__ = __ge__ = refuse
    __bool__ = __len__ = __iter__ = __getitem__ = __contains__ = refuse
    __str__ = __repr__ = __int__ = __index__ = __abs__ = __neg__ = refuse
    __hash__ = None


def no_numbers():
    return [None, True, False, "1", "", b"1", 1.0, 0.5, float("nan"), 1j, (), (1,), [], [1], {}, set(), object(),
            Hostile(), int, len]


def endless():
    """A list that holds itself."""
    row = []
    row.append(row)
    return row
