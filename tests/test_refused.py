"""What cuts, flips and orders refuse, each by its class alone, and what is refused first."""

import unittest

from stickbodies.cuts import cuts, how_many, judged, less, slabs
from stickbodies.errors import BadCut, BadMany, BadPlaces, BadStick, BadSticks, BadThree
from stickbodies.flips import flipped, led, loose
from stickbodies.orders import cut_of, order_of, ways

from exchanges import all_exchanges, no_together, some_cuts, threes
from shapes import GREAT, SMALL
from strangers import Hostile, endless, no_counts, no_lists, no_numbers, no_signs, no_sticks

STICKS = {len(sticks): sticks for sticks in SMALL + GREAT}
NO_COUNTS = [0, -1, 7, True, False, None, "3", [3], Hostile()]
NO_CUTS = [None, (), (0, 0, 0, 0), "0000", [0, 0, 0], [0, 0, 0, 0, 0], [0, 0, 0, 2], [-1, 0, 0, 0], [0, True, 0, 0],
           [0, 0, None, 0], [0, 1, 0, 0], Hostile()]


class Refused(unittest.TestCase):
    def refuse(self, wanted, ask, *handed):
        with self.assertRaises(wanted) as caught:
            ask(*handed)
        self.assertIs(type(caught.exception), wanted)


class Counts(Refused):
    def test_to_six(self):
        for wrong in no_counts(6):
            for other in ([], [0], [0, 0, 0, 0], [0] * 35):
                self.refuse(BadMany, judged, wrong, other)
                self.refuse(BadMany, less, wrong, other, 0)
                self.refuse(BadMany, loose, wrong, other)
                self.refuse(BadMany, flipped, wrong, other, [0, 1, 2])
                self.refuse(BadMany, order_of, wrong, other)
                self.refuse(BadMany, ways, wrong, other)
                self.refuse(BadMany, cut_of, wrong, other)
            self.refuse(BadMany, how_many, wrong)

    def test_to_five(self):
        for wrong in [6, *no_counts(5)]:
            self.refuse(BadMany, cuts, wrong)
            for long in (0, 1, 4, 10, 20, 35):
                self.refuse(BadMany, led, wrong, [0] * long, [1] * long)

    def test_the_greatest_counts_are_taken(self):
        self.assertEqual((len(cuts(5)), how_many(6), len(led(5, [0] * 10, [1] * 10))), (62, 908, 10))


class Cuts(Refused):
    def refuse_cut(self, many, wrong):
        """At each door that also refuses signs that don't go together."""
        right = [0] * len(threes(many))
        self.refuse(BadCut, slabs, STICKS[many], wrong)
        self.refuse(BadCut, less, many, wrong, 0)
        self.refuse(BadCut, loose, many, wrong)
        self.refuse(BadCut, flipped, many, wrong, [0, 1, 2])
        self.refuse(BadCut, order_of, many, wrong)
        self.refuse(BadCut, ways, many, wrong)
        if many < 6:
            self.refuse(BadCut, led, many, wrong, right)
            self.refuse(BadCut, led, many, right, wrong)
            self.refuse(BadCut, led, many, wrong, wrong)

    def test_no_list_of_a_sign_for_each_three(self):
        for many in range(1, 7):
            for wrong in no_signs(many):
                self.refuse_cut(many, wrong)
                self.refuse(BadCut, judged, many, wrong)

    def test_signs_that_don_t_go_together(self):
        for many in (4, 5, 6):
            for wrong in no_together(many):
                self.refuse_cut(many, wrong)
                # Just this one door tells of them instead.
                self.assertIn(sorted(judged(many, wrong).four), [judged(many, wrong).four])

    def test_cuts_of_another_count_of_sticks(self):
        for many in range(1, 7):
            for other in range(1, 7):
                wrong = [0] * len(threes(other))
                if len(threes(many)) != len(wrong):
                    self.refuse_cut(many, wrong)
                    self.refuse(BadCut, judged, many, wrong)


class Sticks(Refused):
    def test_no_sticks(self):
        for wrong in no_sticks():
            self.refuse(BadSticks, slabs, wrong, [])
        for wrong in ([], None, [(1, 1), (1, 0)], [(21, 0)], [(20 - at, 1) for at in range(7)], Hostile()):
            for cut in ([0] * 35, [0], *NO_CUTS):
                self.refuse(BadSticks, slabs, wrong, cut)


class Places(Refused):
    def test_no_place_of_a_stick(self):
        for many in range(2, 7):
            for cut in some_cuts(many)[::20]:
                for wrong in [-1, -many, many, many + 1, 10 ** 5000, -10 ** 5000, endless(), *no_numbers()]:
                    self.refuse(BadStick, less, many, cut, wrong)

    def test_one_stick_alone(self):
        for stick in [0, 1, -1, *no_numbers()]:
            self.refuse(BadStick, less, 1, [], stick)

    def no_threes(self, many):
        """What is no three of so many sticks, or none that can be flipped where all signs are 0."""
        yield from [[], [0], [0, 1], [0, 1, 2, 3], [0, 1, 2, 2], [0, 0, 0], [1, 1, 2], [0, 1, 1], [2, 1, 0], [0, 2, 1]]
        yield from [[1, 0, 2], [0, 1, many], [-1, 0, 1], [many - 2, many - 1, many], [0, 1, -1], [-3, -2, -1]]
        yield from [[0, True, 2], [False, 1, 2], [0, 1, "2"], [0, 1, None], [0, 1.0, 2], [0, 1, Hostile()], [[0, 1, 2]]]
        yield from [(0, 1, 2), "012", range(3), {0, 1, 2}, {0: 0, 1: 1, 2: 2}, b"\x00\x01\x02", endless(), *no_lists()]
        yield [0, 1, 10 ** 5000]
        yield [0, 1, 2] * 1000

    def test_no_three(self):
        for many in range(1, 7):
            cut = [0] * len(threes(many))
            for wrong in self.no_threes(many):
                self.refuse(BadThree, flipped, many, cut, wrong)

    def test_threes_that_can_t_be_flipped(self):
        for many in range(3, 7):
            for cut in some_cuts(many):
                right = loose(many, cut)
                for three in threes(many):
                    if list(three) not in right:
                        self.refuse(BadThree, flipped, many, cut, list(three))
                    self.refuse(BadThree, flipped, many, cut, three)

    def test_no_exchanges(self):
        for many in range(1, 7):
            right = some_order(many)
            wrong = [*no_lists(), tuple(right), endless(), right + [0], right + [0] + right, right + [-1]]
            wrong += [right + [many - 1], [right], [0] * 16, [1] * 1000, [10 ** 5000] * len(right) + [0]]
            if right:
                wrong += [[], right[:-1], right[1:], right[:1] + right, right[:-1] + [many], right[:-1] + [-1]]
            for places in wrong:
                self.refuse(BadPlaces, cut_of, many, places)
            for at in range(len(right)):
                for odd in [-1, -2, many - 1, many, 10 ** 5000, -10 ** 5000, endless(), *no_numbers()]:
                    self.refuse(BadPlaces, cut_of, many, right[:at] + [odd] + right[at + 1:])

    def test_two_that_are_exchanged_again(self):
        for many in range(2, 7):
            right = some_order(many)
            for at in range(1, len(right)):
                # The two that have just been exchanged stand the greater ahead.
                self.refuse(BadPlaces, cut_of, many, right[:at] + [right[at - 1]] + right[at + 1:])
                self.refuse(BadPlaces, cut_of, many, right[:at] + [right[at - 1]] * 2 + right[at:])

    def test_places_from_the_end(self):
        # Python would take -1 for the last place.
        self.refuse(BadPlaces, cut_of, 2, [-1])
        self.refuse(BadPlaces, cut_of, 3, [0, -2, 0])
        for places in all_exchanges(4):
            for at in range(6):
                self.refuse(BadPlaces, cut_of, 4, places[:at] + [places[at] - 4] + places[at + 1:])


def some_order(many):
    """Exchanges that go over the cut whose signs are all 0."""
    return [place for last in range(1, many) for place in range(last - 1, -1, -1)]


class First(Refused):
    """Of two wrong ones the one that is told first."""

    def test_the_count_first(self):
        for many in NO_COUNTS:
            for cut in NO_CUTS:
                self.refuse(BadMany, judged, many, cut)
                self.refuse(BadMany, loose, many, cut)
                self.refuse(BadMany, order_of, many, cut)
                self.refuse(BadMany, ways, many, cut)
                for other in (None, [0, 0, 0], -1, Hostile()):
                    self.refuse(BadMany, less, many, cut, other)
                    self.refuse(BadMany, flipped, many, cut, other)
                    self.refuse(BadMany, led, many, cut, other)
            for places in (None, [], (0,), [-1], Hostile()):
                self.refuse(BadMany, cut_of, many, places)
        self.refuse(BadMany, led, 6, None, [0, 1])

    def test_then_the_cut(self):
        for cut in NO_CUTS:
            for stick in (-1, 4, True, None, "0", Hostile()):
                self.refuse(BadCut, less, 4, cut, stick)
            for three in (None, (0, 1, 2), [0, 1], [0, 1, 3], [0, 1, 4], Hostile()):
                self.refuse(BadCut, flipped, 4, cut, three)
            for other in NO_CUTS:
                self.refuse(BadCut, led, 4, cut, other)
        self.refuse(BadCut, less, 1, [0], 0)
        self.refuse(BadCut, less, 1, [0], 7)


if __name__ == "__main__":
    unittest.main()
