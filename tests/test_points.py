import unittest
from fractions import Fraction

from stickbodies.answers import Apart, Shares
from stickbodies.errors import BadPoint, BadSticks
from stickbodies.points import within

from shapes import GREAT, SMALL, holds, hull, room, sides
from strangers import Hostile, no_pairs, no_sticks

TWO = [(2, 0), (1, 3)]
STEPS = [(1, 0), (0, 1), (-1, 0), (0, -1), (1, 1), (-1, 1), (1, -1), (-1, -1)]


class Asked(unittest.TestCase):
    def check_shares(self, sticks, point, shares):
        self.assertIs(type(shares), list)
        self.assertEqual(len(shares), len(sticks))
        for share in shares:
            self.assertIs(type(share), tuple)
            self.assertEqual([type(number) for number in share], [int, int])
            top, bottom = share
            self.assertTrue(0 <= top <= bottom and bottom > 0)
            self.assertEqual((Fraction(top, bottom).numerator, Fraction(top, bottom).denominator), share)
        for at in (0, 1):
            led = sum(Fraction(top, bottom) * stick[at] for stick, (top, bottom) in zip(sticks, shares))
            self.assertEqual(led, point[at])

    def check_line(self, about, point, line):
        self.assertIs(type(line), tuple)
        self.assertEqual([type(number) for number in line], [int, int])
        u, v = line
        for x, y in about:
            self.assertGreater(u * point[0] + v * point[1], u * x + v * y)

    def check(self, sticks, point, inside):
        with self.subTest(sticks=sticks, point=point):
            handed = list(sticks)
            answer = within(handed, point)
            self.assertEqual(handed, sticks)
            self.assertIs(type(answer), Shares if inside else Apart)
            self.assertIs(answer.shows(sticks, point), True)
            if inside:
                self.check_shares(sticks, point, answer.shares)
            else:
                self.check_line(hull(sticks), point, answer.line)
            self.assertIs(type(within(handed, point)), type(answer))


class Ordinary(Asked):
    def test_examples(self):
        for point in ((0, 0), (1, 0), (2, 0), (3, 3), (1, 3), (1, 1), (2, 1), (2, 2), (1, 2), (2, 3)):
            self.check(TWO, point, True)
        for point in ((-1, 0), (3, 0), (1, -1), (0, 1), (0, 3), (3, 2), (4, 4), (1, 4), (10, 10), (-10, 10)):
            self.check(TWO, point, False)

    def test_shares_of_two_sticks_are_the_only_ones(self):
        self.assertEqual(within(TWO, (1, 1)).shares, [(1, 3), (1, 3)])
        self.assertEqual(within(TWO, (2, 1)).shares, [(5, 6), (1, 3)])
        self.assertEqual(within(TWO, (2, 3)).shares, [(1, 2), (1, 1)])
        self.assertEqual(within(TWO, (0, 0)).shares, [(0, 1), (0, 1)])

    def test_all_points_of_a_room_about_small_bodies(self):
        for sticks in SMALL:
            about = hull(sticks)
            for point in room(about):
                self.check(sticks, point, holds(about, point))

    def test_points_of_great_bodies(self):
        for sticks in GREAT:
            about = hull(sticks)
            for x, y in room(about)[::97]:
                self.check(sticks, (x, y), holds(about, (x, y)))


class Edges(Asked):
    def test_corners(self):
        for sticks in SMALL + GREAT:
            for corner in hull(sticks):
                self.check(sticks, corner, True)

    def test_on_sides_between_corners(self):
        for sticks in SMALL:
            grown = [(4 * x, 4 * y) for x, y in sticks]
            for (a, b), (c, d) in sides(hull(grown)):
                for part in (1, 2, 3):
                    self.check(grown, (a + (c - a) // 4 * part, b + (d - b) // 4 * part), True)

    def test_one_step_beyond_a_side(self):
        for sticks in SMALL + GREAT:
            about = hull(sticks)
            for (a, b), (c, d) in sides(about):
                for x, y in STEPS:
                    for point in ((a + x, b + y), ((a + c) // 2 + x, (b + d) // 2 + y)):
                        self.check(sticks, point, holds(about, point))

    def test_far_off(self):
        for sticks in SMALL + GREAT:
            for far in (10 ** 3, 10 ** 60):
                for x, y in STEPS:
                    self.check(sticks, (x * far, y * far), False)

    def test_one_stick(self):
        for stick in ((4, 0), (0, 4), (4, 8), (-4, 12), (-20, 20), (20, 16)):
            x, y = stick[0] // 4, stick[1] // 4
            for times in range(5):
                self.check([stick], (x * times, y * times), True)
                for a, b in ((-y, x), (y, -x)):
                    self.check([stick], (x * times + a, y * times + b), False)
            for times in (-1, 5, -10 ** 30, 10 ** 30):
                self.check([stick], (x * times, y * times), False)

    def test_share_of_one_stick(self):
        self.assertEqual(within([(-4, 12)], (-1, 3)).shares, [(1, 4)])
        self.assertEqual(within([(20, 0)], (15, 0)).shares, [(3, 4)])
        self.assertEqual(within([(0, 7)], (0, 7)).shares, [(1, 1)])
        self.assertEqual(within([(0, 7)], (0, 0)).shares, [(0, 1)])


class New(unittest.TestCase):
    def test_told_shares_that_are_changed_change_no_later_answer(self):
        answer = within(TWO, (1, 1))
        answer.shares[0] = (9, 9)
        answer.shares.append((7, 7))
        self.assertIs(answer.shows(TWO, (1, 1)), False)
        self.assertEqual(within(TWO, (1, 1)).shares, [(1, 3), (1, 3)])
        self.assertIsNot(within(TWO, (1, 1)).shares, within(TWO, (1, 1)).shares)

    def test_sticks_changed_in_place_are_told_of_as_they_are_then(self):
        sticks = [(2, 0), (1, 3)]
        answer = within(sticks, (1, 3))
        self.assertIs(type(answer), Shares)
        sticks[1] = (0, 2)
        self.assertIs(answer.shows(sticks, (1, 3)), False)
        self.assertIs(type(within(sticks, (1, 3))), Apart)
        self.assertEqual(answer.shares, [(0, 1), (1, 1)])
        sticks.pop()
        self.assertEqual(within(sticks, (1, 0)).shares, [(1, 2)])
        sticks.clear()
        self.assertRaises(BadSticks, within, sticks, (1, 0))


class Refused(unittest.TestCase):
    def refuse(self, wanted, sticks, point):
        with self.assertRaises(wanted) as caught:
            within(sticks, point)
        self.assertIs(type(caught.exception), wanted)

    def test_no_sticks(self):
        for wrong in no_sticks():
            self.refuse(BadSticks, wrong, (0, 0))

    def test_no_point(self):
        for wrong in no_pairs():
            for sticks in ([(2, 0)], TWO, [(1, 0), (1, 1), (0, 1), (-1, 1)]):
                self.refuse(BadPoint, sticks, wrong)

    def test_sticks_are_refused_first(self):
        for wrong in ([], None, [(-1, 0)], [(1, 1), (1, 0)], [(21, 0)], Hostile()):
            for other in (None, True, "ab", 1, [1, 2], (1, 2, 3), (1, True), Hostile()):
                self.refuse(BadSticks, wrong, other)


if __name__ == "__main__":
    unittest.main()
