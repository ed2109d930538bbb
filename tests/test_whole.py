"""What holds over the whole program: its names, and that nothing handed in is changed or kept and all told is new."""

import copy
import importlib
import inspect
import unittest

from stickbodies.answers import Answer, Apart, Broken, Shares, Whole
from stickbodies.bodies import area, corners, opposite, rim_points, whole_points
from stickbodies.cuts import cuts, how_many, judged, less, slabs
from stickbodies.flips import flipped, led, loose
from stickbodies.orders import cut_of, order_of, ways
from stickbodies.points import within
from stickbodies.sticks import gathered

INTERFACE = {
    "sticks": {"gathered": ["rows"]},
    "bodies": {"corners": ["sticks"], "area": ["sticks"], "opposite": ["sticks", "point"],
               "whole_points": ["sticks", "times"], "rim_points": ["sticks", "times"]},
    "points": {"within": ["sticks", "point"]},
    "cuts": {"judged": ["many", "cut"], "slabs": ["sticks", "cut"], "cuts": ["many"], "how_many": ["many"],
             "less": ["many", "cut", "stick"]},
    "flips": {"loose": ["many", "cut"], "flipped": ["many", "cut", "three"], "led": ["many", "one", "other"]},
    "orders": {"order_of": ["many", "cut"], "ways": ["many", "cut"], "cut_of": ["many", "places"]},
}
TWO = [(2, 0), (1, 3)]
FOUR = [(2, 1), (2, 2), (0, 3), (-2, 2)]
OTHER_FOUR = [(3, 0), (1, 1), (0, 2), (-1, 1)]
# Each function with what is handed in and what is told, and the same again behind a change.
ASKED = [
    (gathered, ([(2, 0), (-1, -1)],), ([(2, 0), (1, 1)], (-1, -1)), ([(0, 3)],), ([(0, 3)], (0, 0))),
    (corners, (TWO,), [(0, 0), (2, 0), (3, 3), (1, 3)], ([(5, 0)],), [(0, 0), (5, 0)]),
    (area, (TWO,), 6, ([(1, 0), (1, 1), (0, 1)],), 3),
    (opposite, (TWO, (1, 1)), (2, 2), ([(5, 0)], (1, 1)), (4, -1)),
    (whole_points, (TWO, 1), 10, ([(5, 0)], 1), 6),
    (rim_points, (TWO, 1), 6, ([(4, 0), (0, 1)], 1), 10),
    (within, (TWO, (1, 1)), Shares([(1, 3), (1, 3)]), ([(4, 0), (0, 1)], (1, 1)), Shares([(1, 4), (1, 1)])),
    (within, ([(3, 0)], (1, 0)), Shares([(1, 3)]), ([(1, 0), (0, 2)], (1, 0)), Shares([(1, 1), (0, 1)])),
    (judged, (4, [0, 1, 1, 1]), Whole(), (4, [0, 1, 0, 1]), Broken([0, 1, 2, 3])),
    (judged, (4, [0, 1, 0, 1]), Broken([0, 1, 2, 3]), (4, [1, 1, 0, 0]), Whole()),
    (slabs, ([(2, 0), (1, 3), (-2, 1)], [0]), [(0, 1, (0, 0)), (0, 2, (1, 3)), (1, 2, (0, 0))],
     ([(1, 0), (1, 1), (0, 1)], [1]), [(0, 1, (0, 1)), (0, 2, (0, 0)), (1, 2, (1, 0))]),
    (cuts, (3,), [[0], [1]], (2,), [[]]),
    (how_many, (4,), 8, (5,), 62),
    (less, (4, [0, 0, 1, 1], 3), [0], (4, [1, 1, 0, 0], 3), [1]),
    (loose, (4, [0, 0, 0, 0]), [[0, 1, 2], [1, 2, 3]], (4, [0, 0, 1, 1]), [[0, 1, 3], [0, 2, 3]]),
    (flipped, (4, [0, 0, 0, 0], [0, 1, 2]), [1, 0, 0, 0], (4, [0, 0, 1, 1], [0, 2, 3]), [0, 0, 0, 1]),
    (led, (4, [0, 0, 0, 0], [1, 0, 0, 0]), [[0, 1, 2]], (4, [0, 0, 0, 1], [0, 0, 1, 1]), [[0, 2, 3]]),
    (led, (4, [1, 1, 1, 1], [1, 1, 0, 0]), [[1, 2, 3], [0, 2, 3]], (4, [0, 0, 1, 1], [0, 0, 1, 1]), []),
    (order_of, (3, [0]), [0, 1, 0], (3, [1]), [1, 0, 1]),
    (ways, (4, [0, 0, 1, 1]), 4, (4, [0, 0, 0, 0]), 2),
    (cut_of, (3, [0, 1, 0]), [0], (3, [1, 0, 1]), [1]),
]


def plain(told):
    """What is told, so that it can be compared, answers by their class and fields."""
    if isinstance(told, Answer):
        return (type(told).__name__, copy.deepcopy(vars(told)))
    return copy.deepcopy(told)


def lists_within(told):
    """Each list in what is told, itself too."""
    if isinstance(told, Answer):
        return [inner for field in vars(told).values() for inner in lists_within(field)]
    if not isinstance(told, (list, tuple)):
        return []
    return [told] * isinstance(told, list) + [inner for member in told for inner in lists_within(member)]


def kinds_within(told):
    if isinstance(told, Answer):
        return {kind for field in vars(told).values() for kind in kinds_within(field)}
    if not isinstance(told, (list, tuple)):
        return {type(told)}
    return {type(told)} | {kind for member in told for kind in kinds_within(member)}


class Names(unittest.TestCase):
    def test_functions_and_their_arguments(self):
        for file, functions in INTERFACE.items():
            module = importlib.import_module("stickbodies." + file)
            for name, arguments in functions.items():
                self.assertEqual(list(inspect.signature(getattr(module, name)).parameters), arguments)

    def test_fields_and_methods_of_answers(self):
        for kind, fields, asked in ((Shares, ["shares"], ["sticks", "point"]), (Apart, ["line"], ["sticks", "point"]),
                                    (Whole, [], ["many", "cut"]), (Broken, ["four"], ["many", "cut"])):
            self.assertEqual(list(inspect.signature(kind).parameters), fields)
            self.assertEqual(list(inspect.signature(vars(kind)["shows"]).parameters), ["self", *asked])

    def test_all_functions_are_asked_here(self):
        self.assertEqual({ask.__name__ for ask, *rest in ASKED},
                         {name for functions in INTERFACE.values() for name in functions})


class Told(unittest.TestCase):
    def test_as_wanted_and_by_name(self):
        for ask, handed, wanted, *rest in ASKED:
            with self.subTest(ask=ask.__name__):
                self.assertEqual(plain(ask(*handed)), plain(wanted))
                names = inspect.signature(ask).parameters
                self.assertEqual(plain(ask(**dict(zip(names, handed)))), plain(wanted))

    def test_kinds(self):
        for ask, handed, wanted, *rest in ASKED:
            self.assertLessEqual(kinds_within(ask(*handed)), {list, tuple, int})
            self.assertEqual(type(ask(*handed)), type(wanted))

    def test_what_is_handed_in_stays(self):
        for ask, one, wanted, other, later in ASKED:
            for handed in (one, other):
                kept = copy.deepcopy(handed)
                ask(*kept)
                self.assertEqual(repr(kept), repr(handed))

    def test_lists_are_new_within_too(self):
        for ask, handed, *rest in ASKED:
            found = lists_within(ask(*handed))
            again = lists_within(ask(*handed))
            every = found + again + lists_within(handed)
            self.assertEqual(len({id(row) for row in every}), len(every), ask.__name__)

    def test_told_lists_changed_behind_change_no_later_answer(self):
        for ask, handed, wanted, *rest in ASKED:
            with self.subTest(ask=ask.__name__):
                handed = copy.deepcopy(handed)
                for row in lists_within(ask(*handed)):
                    row.append(9)
                    row.reverse()
                self.assertEqual(plain(ask(*handed)), plain(wanted))
                for row in lists_within(ask(*handed)):
                    row.clear()
                self.assertEqual(plain(ask(*handed)), plain(wanted))

    def test_lists_changed_in_place_are_told_of_as_they_are_then(self):
        for ask, one, wanted, other, later in ASKED:
            with self.subTest(ask=ask.__name__):
                handed = list(copy.deepcopy(one))
                before = ask(*handed)
                for at, new in enumerate(other):
                    if isinstance(new, list):
                        handed[at][:] = new
                    else:
                        handed[at] = new
                self.assertEqual(plain(ask(*handed)), plain(later))
                self.assertEqual(plain(before), plain(wanted))

    def test_a_field_of_an_answer_is_not_what_was_handed_in(self):
        row = [0, 1, 0, 1]
        answer = judged(4, row)
        row[:] = [0, 0, 0, 0]
        self.assertEqual(answer.four, [0, 1, 2, 3])
        self.assertIs(answer.shows(4, row), False)
        self.assertIs(judged(4, row).shows(4, row), True)
        sticks = list(FOUR)
        told = slabs(sticks, [0, 0, 1, 1])
        sticks[:] = OTHER_FOUR
        self.assertEqual(told, slabs(FOUR, [0, 0, 1, 1]))
        self.assertNotEqual(told, slabs(sticks, [0, 0, 1, 1]))


if __name__ == "__main__":
    unittest.main()
