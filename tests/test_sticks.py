import itertools
import math
import unittest

from stickbodies import sticks
from stickbodies.errors import BadPoint, BadSticks
from stickbodies.sticks import gathered

from strangers import RIGHT, endless, no_lists, no_numbers, no_pairs, no_sticks

LINES = [(u, v) for u in range(-5, 6) for v in range(-5, 6)]


def reach(rows, line):
    """The most that shares of the rows lead to along a line."""
    return sum(max(0, line[0] * x + line[1] * y) for x, y in rows)


class Asked(unittest.TestCase):
    def check(self, rows, told):
        with self.subTest(rows=rows):
            self.assertEqual(gathered(rows), told)


class Ordinary(Asked):
    def test_sticks_stay(self):
        self.check([(1, 0), (1, 1), (0, 1), (-1, 1)], ([(1, 0), (1, 1), (0, 1), (-1, 1)], (0, 0)))

    def test_any_way_round(self):
        wanted = [(3, 1), (1, 2), (-1, 3), (-2, 1)]
        for rows in itertools.permutations(wanted):
            self.check(list(rows), (wanted, (0, 0)))

    def test_rows_that_do_not_stand_are_turned_and_move(self):
        self.check([(2, 0), (-1, -1), (3, 3), (0, -4)], ([(2, 0), (4, 4), (0, 4)], (-1, -5)))
        self.check([(1, -1)], ([(-1, 1)], (1, -1)))
        self.check([(1, -3), (-2, -1), (-5, 0)], ([(5, 0), (2, 1), (-1, 3)], (-6, -4)))

    def test_rows_along_one_line(self):
        self.check([(1, 2), (2, 4), (3, 6)], ([(6, 12)], (0, 0)))
        self.check([(2, 4), (5, 1), (3, 6)], ([(5, 1), (5, 10)], (0, 0)))

    def test_rows_along_one_line_both_ways_with_others_between(self):
        self.check([(1, 2), (7, 0), (-2, -4), (-3, 1), (3, 6)], ([(7, 0), (6, 12), (-3, 1)], (-2, -4)))
        self.check([(0, 3), (1, 1), (0, -3), (-1, -1)], ([(2, 2), (0, 6)], (-1, -4)))


class Edges(Asked):
    def test_one_row(self):
        self.check([(3, -7)], ([(-3, 7)], (3, -7)))
        self.check([(3, 7)], ([(3, 7)], (0, 0)))

    def test_six_rows(self):
        self.check([(0, 1), (1, 0), (-1, 1), (1, 1), (-1, 2), (1, 2)],
                   ([(1, 0), (1, 1), (1, 2), (0, 1), (-1, 2), (-1, 1)], (0, 0)))

    def test_twenty(self):
        self.check([(20, 20), (20, -20), (-20, 20), (-20, -20)], ([(40, 40), (-40, 40)], (0, -40)))
        self.check([(20, 0), (0, 20)], ([(20, 0), (0, 20)], (0, 0)))
        self.check([(-20, 0), (0, -20)], ([(20, 0), (0, 20)], (-20, -20)))

    def test_close_directions_are_kept_apart(self):
        self.check([(19, 20), (20, 19), (18, 19), (19, 18)], ([(19, 18), (20, 19), (19, 20), (18, 19)], (0, 0)))

    def test_right_and_left(self):
        self.check([(1, 0), (-1, 0)], ([(2, 0)], (-1, 0)))
        self.check([(-1, 0)], ([(1, 0)], (-1, 0)))
        self.check([(1, 0)], ([(1, 0)], (0, 0)))
        self.check([(-3, 0), (0, 1), (2, 0), (-1, 0)], ([(6, 0), (0, 1)], (-4, 0)))

    def test_told_numbers_may_be_greater_than_twenty(self):
        self.check([(20, 0)] * 6, ([(120, 0)], (0, 0)))
        self.check([(-20, -20)] * 6, ([(120, 120)], (-120, -120)))


class Bodies(unittest.TestCase):
    """Whatever the rows are, the told body, moved, reaches as far as they do, along each line."""

    def check_body(self, rows):
        told, (x, y) = gathered(rows)
        for stick in told:
            self.assertTrue(stick[1] > 0 or (stick[1] == 0 and stick[0] > 0), rows)
        for (a, b), (c, d) in itertools.combinations(told, 2):
            self.assertGreater(a * d - b * c, 0, rows)
        for line in LINES:
            self.assertEqual(reach(told, line) + line[0] * x + line[1] * y, reach(rows, line), rows)

    def test_all_rows_of_small_numbers(self):
        pairs = [(x, y) for x in range(-2, 3) for y in range(-2, 3) if (x, y) != (0, 0)]
        for many in (1, 2):
            for rows in itertools.product(pairs, repeat=many):
                self.check_body(list(rows))

    def test_rows_of_each_length(self):
        pairs = [(x, y) for x in range(-20, 21, 3) for y in range(-20, 21, 3)] + [(6, 3), (-4, -2), (20, 0), (-20, 0)]
        for many in range(1, 7):
            for start in range(0, 400):
                self.check_body([pairs[(start * 37 + at * at * 11 + at * 5) % len(pairs)] for at in range(many)])


class New(unittest.TestCase):
    def test_rows_stay_as_they_were(self):
        rows = [(0, -4), (2, 0), (3, 3), (-1, -1)]
        gathered(rows)
        self.assertEqual(rows, [(0, -4), (2, 0), (3, 3), (-1, -1)])

    def test_a_told_list_that_is_changed_changes_no_later_answer(self):
        rows = [(1, 0), (0, 1)]
        told = gathered(rows)[0]
        told.append((5, 5))
        told[0] = (7, 7)
        self.assertEqual(rows, [(1, 0), (0, 1)])
        self.assertEqual(gathered(rows), ([(1, 0), (0, 1)], (0, 0)))
        self.assertEqual(gathered([(1, 0), (0, 1)]), ([(1, 0), (0, 1)], (0, 0)))

    def test_told_is_not_what_was_handed_in(self):
        rows = [(1, 0), (0, 1)]
        told = gathered(rows)[0]
        self.assertIsNot(told, rows)
        self.assertIsNot(gathered(rows)[0], told)

    def test_rows_changed_in_place_are_told_of_as_they_are_then(self):
        rows = [(1, 0), (0, 1)]
        told = gathered(rows)
        rows[1] = (0, -2)
        rows.append((3, 0))
        self.assertEqual(told, ([(1, 0), (0, 1)], (0, 0)))
        self.assertEqual(gathered(rows), ([(4, 0), (0, 2)], (0, -2)))
        rows.clear()
        self.assertRaises(BadSticks, gathered, rows)
        self.assertEqual(told, ([(1, 0), (0, 1)], (0, 0)))

    def test_kinds(self):
        for rows in ([(1, 0)], [(-1, 0)], [(1, 2), (2, 4)], [(2, 0), (-1, -1), (3, 3), (0, -4)]):
            told = gathered(rows)
            self.assertIs(type(told), tuple)
            self.assertEqual(len(told), 2)
            self.assertIs(type(told[0]), list)
            for pair in [*told[0], told[1]]:
                self.assertIs(type(pair), tuple)
                self.assertEqual(len(pair), 2)
                self.assertEqual([type(number) for number in pair], [int, int])


class Refused(unittest.TestCase):
    def refuse(self, rows):
        with self.assertRaises(BadSticks) as caught:
            gathered(rows)
        self.assertIs(type(caught.exception), BadSticks)

    def test_no_list(self):
        for rows in [*no_lists(), gathered, (row for row in [(1, 0)])]:
            self.refuse(rows)

    def test_too_few_or_too_many(self):
        self.refuse([])
        self.refuse([(1, 0)] * 7)
        self.refuse([(1, 0), (0, 1), (1, 1), (1, 2), (2, 1), (1, 3), (3, 1)])
        self.refuse([(1, 0)] * 100)

    def wrong_rows(self):
        yield from [(0, 0), (21, 0), (0, 21), (-21, 0), (0, -21), (21, -21), (10 ** 5000, 1), (1, -10 ** 5000)]
        yield from no_pairs()

    def test_a_wrong_row_at_each_place(self):
        right = [(1, 0), (0, -1), (2, 2), (-20, 20), (20, -20)]
        for wrong in self.wrong_rows():
            self.refuse([wrong])
            for place in (0, 2, 5):
                self.refuse(right[:place] + [wrong] + right[place:])

    def test_a_list_that_holds_itself(self):
        self.refuse(endless())


class Told(unittest.TestCase):
    """What point 2 says, which is asked of whatever is handed in."""

    def test_numbers(self):
        for number in (0, 1, -1, 10 ** 5000):
            self.assertIs(sticks.is_number(number), True)
        for stranger in no_numbers():
            self.assertIs(sticks.is_number(stranger), False)

    def test_points(self):
        for point in ((0, 0), (1, -2), (10 ** 50, -10 ** 50)):
            self.assertIs(sticks.is_point(point), True)
            self.assertIsNone(sticks.check_point(point))
        for wrong in no_pairs():
            self.assertIs(sticks.is_point(wrong), False)
            self.assertRaises(BadPoint, sticks.check_point, wrong)

    def test_greatest_into(self):
        for one, other in itertools.product(range(-30, 31), repeat=2):
            self.assertEqual(sticks.greatest_into(one, other), math.gcd(one, other))
        self.assertEqual(sticks.greatest_into(6 * 10 ** 40, -10 ** 41), 2 * 10 ** 40)

    def test_twos(self):
        self.assertEqual(sticks.twos(1), [])
        for many in range(1, 7):
            self.assertEqual(sticks.twos(many), [list(two) for two in itertools.combinations(range(many), 2)])

    def test_span(self):
        self.assertEqual(sticks.span((1, 0), (0, 1)), 1)
        self.assertEqual(sticks.span((0, 1), (1, 0)), -1)
        self.assertEqual(sticks.span((2, 3), (5, 7)), -1)
        self.assertEqual(sticks.span((2, 3), (-4, -6)), 0)

    def test_standing(self):
        for stick in ((1, 0), (5, 0), (0, 1), (-3, 1), (3, 1)):
            self.assertIs(sticks.stands(stick), True)
        for stick in ((0, 0), (-1, 0), (0, -1), (3, -1), (-3, -1)):
            self.assertIs(sticks.stands(stick), False)

    def test_sticks(self):
        for right in [[(1, 0)], [(20, 0), (20, 20), (-20, 20)], [(1, 0), (2, 1), (1, 1), (0, 1), (-1, 1), (-2, 1)], RIGHT]:
            self.assertIs(sticks.are_sticks(right), True)
            self.assertIsNone(sticks.check_sticks(right))

    def test_no_sticks(self):
        for wrong in no_sticks():
            self.assertIs(sticks.are_sticks(wrong), False)
            self.assertRaises(BadSticks, sticks.check_sticks, wrong)


if __name__ == "__main__":
    unittest.main()
