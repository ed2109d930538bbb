import unittest
from collections import Counter

from stickbodies.answers import Broken, Whole
from stickbodies.bodies import area, corners
from stickbodies.cuts import cuts, how_many, judged, less, slabs

from exchanges import (all_exchanges, all_signs, broken_fours, gone_over, lists_of_exchanges, met, some_cuts, threes,
                       twos, with_turned)
from shapes import GREAT, SMALL, hull, sides, turned

HOW_MANY = {1: 1, 2: 1, 3: 2, 4: 8, 5: 62, 6: 908}


class Judged(unittest.TestCase):
    def check(self, many, row):
        with self.subTest(many=many, row=row):
            bad = broken_fours(many, row)
            answer = judged(many, list(row))
            self.assertIs(type(answer), Broken if bad else Whole)
            self.assertIs(answer.shows(many, row), True)
            self.assertIs(Whole().shows(many, row), not bad)
            if bad:
                self.assertIs(type(answer.four), list)
                self.assertEqual({type(place) for place in answer.four}, {int})
                self.assertIn(answer.four, bad)

    def test_all_lists_of_one_to_five_sticks(self):
        for many in range(1, 6):
            for row in all_signs(many):
                self.check(many, row)

    def test_all_signs_alike(self):
        for many in range(1, 7):
            for sign in (0, 1):
                row = [sign] * len(threes(many))
                self.assertIs(type(judged(many, row)), Whole)
                for place in range(len(row)):
                    self.check(many, with_turned(row, place))

    def test_exchanges_and_these_with_one_sign_turned(self):
        for many in (5, 6):
            for row in some_cuts(many):
                self.assertIs(type(judged(many, row)), Whole)
                for place in range(len(row)):
                    self.check(many, with_turned(row, place))

    def test_examples(self):
        for row in ([0, 0, 0, 0], [0, 0, 0, 1], [0, 0, 1, 1], [0, 1, 1, 1], [1, 1, 1, 0], [1, 0, 0, 0]):
            self.assertIs(type(judged(4, row)), Whole)
        for row in ([0, 1, 0, 0], [0, 0, 1, 0], [1, 0, 0, 1], [0, 1, 0, 1]):
            self.assertEqual(judged(4, row).four, [0, 1, 2, 3])
        # The only four that breaks stands at the end.
        self.assertEqual(judged(5, [0, 0, 0, 0, 0, 0, 0, 1, 1, 0]).four, [1, 2, 3, 4])


class Slabs(unittest.TestCase):
    def test_examples(self):
        three = [(2, 0), (1, 3), (-2, 1)]
        self.assertEqual(slabs([(2, 0)], []), [])
        self.assertEqual(slabs([(2, 0), (1, 3)], []), [(0, 1, (0, 0))])
        self.assertEqual(slabs(three, [0]), [(0, 1, (0, 0)), (0, 2, (1, 3)), (1, 2, (0, 0))])
        self.assertEqual(slabs(three, [1]), [(0, 1, (-2, 1)), (0, 2, (0, 0)), (1, 2, (2, 0))])

    def test_one_stick_has_none(self):
        for sticks in SMALL + GREAT:
            if len(sticks) == 1:
                self.assertEqual(slabs(sticks, []), [])

    def asked(self):
        for sticks in SMALL + GREAT:
            for cut in some_cuts(len(sticks)):
                yield sticks, cut, slabs(list(sticks), list(cut))

    def test_a_triple_for_each_two_in_order(self):
        for sticks, cut, told in self.asked():
            self.assertIs(type(told), list)
            self.assertEqual([(i, j) for i, j, foot in told], twos(len(sticks)))
            for slab in told:
                self.assertEqual((type(slab), type(slab[2]), len(slab[2])), (tuple, tuple, 2))
                self.assertEqual({type(number) for number in (*slab[:2], *slab[2])}, {int})

    def test_feet_by_the_signs(self):
        for sticks, cut, told in self.asked():
            sign = dict(zip(threes(len(sticks)), cut))
            for i, j, foot in told:
                ahead = [at for at in range(i) if sign[at, i, j] == 1]
                between = [at for at in range(i + 1, j) if sign[i, at, j] == 0]
                behind = [at for at in range(j + 1, len(sticks)) if sign[i, j, at] == 1]
                some = [sticks[at] for at in ahead + between + behind]
                self.assertEqual(foot, (sum(x for x, y in some), sum(y for x, y in some)))

    def test_feet_are_what_stands_ahead_when_the_two_are_exchanged(self):
        for sticks in SMALL + GREAT:
            for places in lists_of_exchanges(len(sticks)):
                told = {(i, j): foot for i, j, foot in slabs(sticks, gone_over(len(sticks), places))}
                for two, ahead in met(len(sticks), places):
                    led = (sum(sticks[at][0] for at in ahead), sum(sticks[at][1] for at in ahead))
                    self.assertEqual(told[two], led)

    def test_each_side_is_gone_both_ways_but_for_the_rim(self):
        for sticks, cut, told in self.asked():
            if len(sticks) == 1:
                continue
            gone = Counter()
            for i, j, (x, y) in told:
                (a, b), (c, d) = sticks[i], sticks[j]
                gone.update(sides([(x, y), (x + a, y + b), (x + a + c, y + b + d), (x + c, y + d)]))
            self.assertEqual(set(gone.values()), {1})
            rim = [side for side in gone if side[::-1] not in gone]
            self.assertEqual(sorted(rim), sorted(sides(corners(sticks))))
            self.assertEqual(sorted(rim), sorted(sides(hull(sticks))))

    def test_areas_come_to_the_bodys(self):
        for sticks, cut, told in self.asked():
            self.assertEqual(sum(turned(sticks[i], sticks[j]) for i, j, foot in told), area(sticks))


class All(unittest.TestCase):
    def test_few_sticks(self):
        self.assertEqual([cuts(1), cuts(2), cuts(3)], [[[]], [[]], [[0], [1]]])
        self.assertEqual(cuts(4), [[0, 0, 0, 0], [0, 0, 0, 1], [0, 0, 1, 1], [0, 1, 1, 1],
                                   [1, 0, 0, 0], [1, 1, 0, 0], [1, 1, 1, 0], [1, 1, 1, 1]])

    def test_against_all_lists_of_signs(self):
        for many in range(1, 6):
            told = cuts(many)
            self.assertIs(type(told), list)
            self.assertEqual({type(cut) for cut in told}, {list})
            self.assertLessEqual({type(sign) for cut in told for sign in cut}, {int})
            self.assertEqual(told, [row for row in all_signs(many) if not broken_fours(many, row)])
            self.assertEqual(told, sorted(told))
            self.assertEqual(len(told), HOW_MANY[many])

    def test_exchanges_go_over_just_these(self):
        for many in range(1, 6):
            gone = {tuple(gone_over(many, places)) for places in all_exchanges(many)}
            self.assertEqual(cuts(many), [list(cut) for cut in sorted(gone)])

    def test_how_many(self):
        for many, wanted in HOW_MANY.items():
            self.assertEqual(how_many(many), wanted)
            self.assertIs(type(how_many(many)), int)

    def test_told_lists_changed_behind_change_no_later_answer(self):
        for many in range(1, 6):
            told, wanted = cuts(many), cuts(many)
            for cut in told:
                cut.append(9)
            told.clear()
            self.assertEqual(cuts(many), wanted)
            self.assertEqual(how_many(many), HOW_MANY[many])


class Less(unittest.TestCase):
    def test_examples(self):
        self.assertEqual(less(2, [], 0), [])
        self.assertEqual(less(3, [1], 1), [])
        self.assertEqual([less(4, [0, 0, 1, 1], stick) for stick in range(4)], [[1], [1], [0], [0]])
        self.assertEqual(less(5, [1, 1, 1, 0, 0, 0, 0, 0, 0, 0], 4), [1, 1, 0, 0])

    def test_signs_of_the_others_in_order(self):
        for many in range(2, 7):
            for cut in some_cuts(many):
                sign = dict(zip(threes(many), cut))
                for stick in range(many):
                    others = [at for at in range(many) if at != stick]
                    told = less(many, list(cut), stick)
                    self.assertIs(type(told), list)
                    self.assertEqual(told, [sign[others[i], others[j], others[k]] for i, j, k in threes(many - 1)])
                    self.assertEqual(broken_fours(many - 1, told), [])

    def test_as_exchanges_without_the_stick_go_over_it(self):
        for many in (4, 5, 6):
            for places in lists_of_exchanges(many)[::7]:
                for stick in range(many):
                    order = [two for two, ahead in met(many, places) if stick not in two]
                    named = [tuple(at - (at > stick) for at in two) for two in order]
                    self.assertEqual(less(many, gone_over(many, places), stick),
                                     [0 if named.index((i, j)) < named.index((j, k)) else 1
                                      for i, j, k in threes(many - 1)])


if __name__ == "__main__":
    unittest.main()
