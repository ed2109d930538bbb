import unittest

from stickbodies.bodies import area, corners, opposite, rim_points, whole_points
from stickbodies.errors import BadPoint, BadSticks, BadTimes

from shapes import GREAT, SMALL, holds, hull, less, on_rim, room, sums, turned
from strangers import Hostile, no_pairs, no_sticks, no_times

TWO = [(2, 0), (1, 3)]
SIX = [(1, 0), (2, 1), (1, 1), (0, 1), (-1, 1), (-2, 1)]


def longer(sticks, times):
    return [(x * times, y * times) for x, y in sticks]


def common(x, y):
    return max(by for by in range(1, 21) if x % by == 0 and y % by == 0)


class Corners(unittest.TestCase):
    def test_one_stick(self):
        self.assertEqual(corners([(2, 0)]), [(0, 0), (2, 0)])
        self.assertEqual(corners([(-3, 7)]), [(0, 0), (-3, 7)])

    def test_two_sticks(self):
        self.assertEqual(corners(TWO), [(0, 0), (2, 0), (3, 3), (1, 3)])

    def test_three_sticks(self):
        self.assertEqual(corners([(2, 0), (1, 3), (-2, 1)]), [(0, 0), (2, 0), (3, 3), (1, 4), (-1, 4), (-2, 1)])

    def test_six_sticks(self):
        self.assertEqual(corners(SIX), [(0, 0), (1, 0), (3, 1), (4, 2), (4, 3), (3, 4), (1, 5), (0, 5), (-2, 4), (-3, 3),
                                        (-3, 2), (-2, 1)])

    def test_corners_are_those_of_the_hull_of_all_sums(self):
        for sticks in SMALL + GREAT:
            with self.subTest(sticks):
                told = corners(sticks)
                self.assertEqual(len(told), 2 * len(sticks))
                self.assertEqual(told[0], (0, 0))
                wanted = hull(sticks)
                at = wanted.index((0, 0))
                self.assertEqual(told, wanted[at:] + wanted[:at])

    def test_along_each_stick_and_back(self):
        for sticks in SMALL + GREAT:
            told = corners(sticks)
            steps = [less(end, start) for start, end in zip(told, told[1:] + told[:1])]
            self.assertEqual(steps, sticks + [(-x, -y) for x, y in sticks])


class Area(unittest.TestCase):
    def test_one_stick(self):
        for sticks in ([(2, 0)], [(-20, 20)], [(0, 1)]):
            self.assertEqual(area(sticks), 0)

    def test_examples(self):
        self.assertEqual(area(TWO), 6)
        self.assertEqual(area([(1, 0), (1, 1), (0, 1)]), 3)
        self.assertEqual(area([(20, 0), (20, 20), (0, 20), (-20, 20)]), 400 * (1 + 1 + 1 + 1 + 2 + 1))
        self.assertEqual(area([(20, 19), (19, 20)]), 39)

    def test_area_is_half_of_what_neighbouring_corners_span(self):
        for sticks in SMALL + GREAT:
            told = corners(sticks)
            spans = sum(turned(one, other) for one, other in zip(told, told[1:] + told[:1]))
            self.assertEqual(2 * area(sticks), spans, sticks)


class Opposite(unittest.TestCase):
    def test_examples(self):
        self.assertEqual(opposite(TWO, (0, 0)), (3, 3))
        self.assertEqual(opposite(TWO, (1, 2)), (2, 1))
        self.assertEqual(opposite([(2, 0)], (1, 0)), (1, 0))
        self.assertEqual(opposite([(-3, 7)], (5, 5)), (-8, 2))

    def test_points_far_off_and_below_0(self):
        self.assertEqual(opposite(TWO, (-4, -9)), (7, 12))
        self.assertEqual(opposite(TWO, (10 ** 60, -10 ** 60)), (3 - 10 ** 60, 3 + 10 ** 60))
        self.assertEqual(opposite(SIX, (1000, 21)), (-999, -16))

    def test_a_corner_leads_to_the_corner_across(self):
        for sticks in SMALL + GREAT:
            told = corners(sticks)
            self.assertEqual([opposite(sticks, corner) for corner in told], told[len(sticks):] + told[:len(sticks)])

    def test_there_and_back(self):
        for sticks in SMALL:
            x, y = sums(sticks)[-1]
            for point in room(hull(sticks)):
                other = opposite(sticks, point)
                self.assertEqual((point[0] + other[0], point[1] + other[1]), (x, y))
                self.assertEqual(opposite(sticks, other), point)


class WholePoints(unittest.TestCase):
    def test_examples(self):
        self.assertEqual([whole_points(TWO, times) for times in range(4)], [1, 10, 31, 64])
        self.assertEqual([rim_points(TWO, times) for times in range(4)], [1, 6, 12, 18])
        self.assertEqual([whole_points([(4, 6)], times) for times in range(4)], [1, 3, 5, 7])
        self.assertEqual([rim_points([(4, 6)], times) for times in range(4)], [1, 3, 5, 7])

    def test_by_looking_at_all_points_of_a_room(self):
        for sticks in SMALL:
            for times in (0, 1, 2) if len(sticks) > 4 else (0, 1, 2, 3):
                about = hull(longer(sticks, times)) or [(0, 0)]
                points = [point for point in room(about) if holds(about, point)]
                self.assertEqual(whole_points(sticks, times), len(points), (sticks, times))
                rim = [point for point in points if on_rim(about, point)]
                self.assertEqual(rim_points(sticks, times), len(rim), (sticks, times))

    def test_by_the_sums_of_the_document(self):
        for sticks in SMALL + GREAT:
            steps = sum(common(x, y) for x, y in sticks)
            for times in (0, 1, 2, 3, 19, 10 ** 40):
                self.assertEqual(whole_points(sticks, times), 1 + times * steps + times ** 2 * area(sticks))
                rim = 2 * times * steps if len(sticks) > 1 else times * steps + 1
                self.assertEqual(rim_points(sticks, times), rim if times else 1)

    def test_of_one_stick_all_points_are_on_the_rim(self):
        for sticks in ([(20, 0)], [(0, 20)], [(-12, 18)], [(7, 5)]):
            for times in (0, 1, 2, 7, 10 ** 30):
                self.assertEqual(rim_points(sticks, times), whole_points(sticks, times))

    def test_of_0_times_there_is_one_point(self):
        for sticks in SMALL + GREAT:
            self.assertEqual((whole_points(sticks, 0), rim_points(sticks, 0)), (1, 1))

    def test_sticks_of_great_numbers(self):
        self.assertEqual(whole_points([(20, 0), (0, 20)], 1), 441)
        self.assertEqual(rim_points([(20, 0), (0, 20)], 1), 80)
        self.assertEqual(rim_points([(-20, 15)], 1), 6)


class Kinds(unittest.TestCase):
    def test_corners_are_a_list_of_tuples(self):
        for sticks in SMALL + GREAT:
            told = corners(sticks)
            self.assertIs(type(told), list)
            for corner in told:
                self.assertIs(type(corner), tuple)
                self.assertEqual([type(number) for number in corner], [int, int])

    def test_points_are_tuples(self):
        for sticks in SMALL + GREAT:
            told = opposite(sticks, (1, 0))
            self.assertIs(type(told), tuple)
            self.assertEqual([type(number) for number in told], [int, int])

    def test_numbers(self):
        for sticks in SMALL + GREAT:
            told = [area(sticks)] + [ask(sticks, times) for ask in (whole_points, rim_points) for times in (0, 1, 2)]
            self.assertEqual({type(number) for number in told}, {int})


class New(unittest.TestCase):
    def test_sticks_stay(self):
        for sticks in SMALL + GREAT:
            handed = list(sticks)
            corners(handed), area(handed), opposite(handed, (1, 1)), whole_points(handed, 2), rim_points(handed, 2)
            self.assertEqual(handed, sticks)

    def test_told_corners_that_are_changed_change_no_later_answer(self):
        told = corners(TWO)
        told[1] = (9, 9)
        told.append((7, 7))
        self.assertEqual(corners(TWO), [(0, 0), (2, 0), (3, 3), (1, 3)])
        self.assertEqual(TWO, [(2, 0), (1, 3)])

    def test_sticks_changed_in_place_are_told_of_as_they_are_then(self):
        sticks = [(2, 0), (1, 3)]
        told = corners(sticks)
        asks = [area, lambda s: opposite(s, (0, 0)), lambda s: whole_points(s, 1), lambda s: rim_points(s, 1)]
        self.assertEqual([ask(sticks) for ask in asks], [6, (3, 3), 10, 6])
        sticks[1] = (0, 2)
        sticks.append((-1, 1))
        self.assertEqual(told, [(0, 0), (2, 0), (3, 3), (1, 3)])
        self.assertEqual(corners(sticks), [(0, 0), (2, 0), (2, 2), (1, 3), (-1, 3), (-1, 1)])
        self.assertEqual([ask(sticks) for ask in asks], [8, (1, 3), 14, 10])
        sticks.reverse()
        for ask in [corners, *asks]:
            self.assertRaises(BadSticks, ask, sticks)


class Refused(unittest.TestCase):
    def refuse(self, wanted, ask, *handed):
        with self.assertRaises(wanted) as caught:
            ask(*handed)
        self.assertIs(type(caught.exception), wanted)

    def test_no_sticks(self):
        for wrong in no_sticks():
            self.refuse(BadSticks, corners, wrong)
            self.refuse(BadSticks, area, wrong)
            self.refuse(BadSticks, opposite, wrong, (0, 0))
            self.refuse(BadSticks, whole_points, wrong, 1)
            self.refuse(BadSticks, rim_points, wrong, 1)
            self.refuse(BadSticks, whole_points, wrong, 0)
            self.refuse(BadSticks, rim_points, wrong, 0)

    def test_no_point(self):
        for wrong in no_pairs():
            for sticks in ([(2, 0)], TWO, SIX):
                self.refuse(BadPoint, opposite, sticks, wrong)

    def test_no_times(self):
        for wrong in no_times():
            for sticks in ([(2, 0)], TWO, SIX):
                self.refuse(BadTimes, whole_points, sticks, wrong)
                self.refuse(BadTimes, rim_points, sticks, wrong)

    def test_sticks_are_refused_first(self):
        for wrong in ([], None, [(-1, 0)], [(1, 1), (1, 0)], [(21, 0)], Hostile()):
            for other in (None, True, "ab", -1, [1, 2], (1, 2, 3), Hostile()):
                self.refuse(BadSticks, opposite, wrong, other)
                self.refuse(BadSticks, whole_points, wrong, other)
                self.refuse(BadSticks, rim_points, wrong, other)


if __name__ == "__main__":
    unittest.main()
