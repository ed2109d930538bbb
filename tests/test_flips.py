import unittest

from stickbodies.cuts import cuts, slabs
from stickbodies.flips import flipped, led, loose

from exchanges import all_signs, broken_fours, some_cuts, threes, with_turned
from shapes import GREAT, SMALL


def loose_places(many, cut):
    return [at for at in range(len(cut)) if not broken_fours(many, with_turned(cut, at))]


class Loose(unittest.TestCase):
    def test_examples(self):
        self.assertEqual([loose(1, []), loose(2, []), loose(3, [0]), loose(3, [1])], [[], [], [[0, 1, 2]], [[0, 1, 2]]])
        self.assertEqual(loose(4, [0, 0, 0, 0]), [[0, 1, 2], [1, 2, 3]])
        self.assertEqual(loose(4, [0, 0, 1, 1]), [[0, 1, 3], [0, 2, 3]])
        self.assertEqual(loose(5, [0] * 10), [[0, 1, 2], [1, 2, 3], [2, 3, 4]])
        self.assertEqual(loose(6, [1] * 20), [[0, 1, 2], [1, 2, 3], [2, 3, 4], [3, 4, 5]])

    def test_just_those_whose_turned_sign_goes_together(self):
        for many in range(1, 7):
            for cut in some_cuts(many):
                told = loose(many, list(cut))
                self.assertIs(type(told), list)
                self.assertLessEqual({type(three) for three in told}, {list})
                self.assertLessEqual({type(place) for three in told for place in three}, {int})
                self.assertEqual(told, [list(threes(many)[at]) for at in loose_places(many, cut)])


class Flipped(unittest.TestCase):
    def test_examples(self):
        self.assertEqual(flipped(3, [0], [0, 1, 2]), [1])
        self.assertEqual(flipped(4, [0, 0, 0, 0], [1, 2, 3]), [0, 0, 0, 1])
        self.assertEqual(flipped(4, [0, 0, 0, 1], [0, 2, 3]), [0, 0, 1, 1])

    def test_just_that_sign_is_turned_and_flipped_again_it_is_the_cut(self):
        for many in range(1, 7):
            for cut in some_cuts(many):
                for at in loose_places(many, cut):
                    three = list(threes(many)[at])
                    told = flipped(many, list(cut), list(three))
                    self.assertIs(type(told), list)
                    self.assertEqual(told, with_turned(cut, at))
                    self.assertEqual({type(sign) for sign in told}, {int})
                    self.assertIn(three, loose(many, told))
                    self.assertEqual(flipped(many, told, three), cut)

    def test_just_the_three_slabs_of_the_three_move(self):
        for sticks in SMALL + GREAT:
            many = len(sticks)
            for cut in some_cuts(many)[::3]:
                for i, j, k in loose(many, cut):
                    behind = slabs(sticks, flipped(many, cut, [i, j, k]))
                    moved = [old[:2] for old, new in zip(slabs(sticks, cut), behind) if old != new]
                    self.assertEqual(moved, [(i, j), (i, k), (j, k)])

    def test_flips_lead_to_all_cuts_of_six(self):
        found = {(0,) * 20}
        edge = list(found)
        while edge:
            beyond = {tuple(flipped(6, list(cut), three)) for cut in edge for three in loose(6, list(cut))}
            edge = sorted(beyond - found)
            found |= beyond
        self.assertEqual(len(found), 908)


def farness(many, start):
    """How many flips each cut is from one, by going through all lists of signs."""
    whole = {tuple(row) for row in all_signs(many) if not broken_fours(many, row)}
    told = {tuple(start): 0}
    queue = [tuple(start)]
    for cut in queue:
        for at in range(len(cut)):
            other = tuple(with_turned(cut, at))
            if other in whole and other not in told:
                told[other] = told[cut] + 1
                queue.append(other)
    assert set(told) == whole
    return told


class Led(unittest.TestCase):
    def check(self, many, one, other, wanted):
        with self.subTest(one=one, other=other):
            told = led(many, list(one), list(other))
            self.assertIs(type(told), list)
            self.assertLessEqual({type(three) for three in told}, {list})
            self.assertLessEqual({type(place) for three in told for place in three}, {int})
            cut = list(one)
            for three in told:
                at = threes(many).index(tuple(three))
                self.assertIn(at, loose_places(many, cut))
                cut = with_turned(cut, at)
            self.assertEqual(cut, list(other))
            self.assertEqual(len(told), wanted)

    def test_each_two_cuts(self):
        for many in range(1, 5):
            for one in cuts(many):
                for other, wanted in farness(many, one).items():
                    self.check(many, one, other, wanted)

    def test_cuts_of_five_sticks(self):
        for one in cuts(5)[::4] + [[1] * 10]:
            for other, wanted in farness(5, one).items():
                self.check(5, one, other, wanted)

    def test_to_itself_none(self):
        for many in range(1, 6):
            for cut in cuts(many):
                self.assertEqual(led(many, cut, list(cut)), [])
                self.assertEqual(led(many, cut, cut), [])

    def test_back_as_many(self):
        for many in range(1, 6):
            for one in cuts(many)[::5]:
                for other in cuts(many)[::3]:
                    self.assertEqual(len(led(many, one, other)), len(led(many, other, one)))

    def test_from_all_0_to_all_1_as_many_as_there_are_threes(self):
        for many in range(1, 6):
            long = len(threes(many))
            self.check(many, [0] * long, [1] * long, long)
            self.check(many, [1] * long, [0] * long, long)

    def test_lists_within_are_each_their_own(self):
        for one in cuts(5)[::9]:
            for other in cuts(5)[::7]:
                told = led(5, one, other)
                self.assertEqual(len({id(three) for three in told}), len(told))


if __name__ == "__main__":
    unittest.main()
