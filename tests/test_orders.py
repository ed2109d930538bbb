import itertools
import unittest

from stickbodies.cuts import all_cuts, cuts, judged
from stickbodies.errors import BadPlaces
from stickbodies.orders import cut_of, order_of, ways

from exchanges import all_exchanges, gone_over, lists_of_exchanges, met, some_cuts, some_exchanges, threes, twos


def first_and_count(many):
    """The first list of exchanges over each cut, and how many there are, by going through all lists."""
    first, count = {}, {}
    for places in all_exchanges(many):
        cut = tuple(gone_over(many, places))
        first.setdefault(cut, places)
        count[cut] = count.get(cut, 0) + 1
    return first, count


class Order(unittest.TestCase):
    def test_examples(self):
        self.assertEqual([order_of(1, []), order_of(2, [])], [[], [0]])
        self.assertEqual([order_of(3, [0]), order_of(3, [1])], [[0, 1, 0], [1, 0, 1]])
        self.assertEqual(order_of(4, [0, 0, 0, 0]), [0, 1, 0, 2, 1, 0])
        self.assertEqual(order_of(4, [1, 1, 1, 1]), [2, 1, 0, 2, 1, 2])

    def test_the_first_of_all_lists(self):
        for many in range(1, 6):
            first, count = first_and_count(many)
            self.assertEqual(sorted(first), [tuple(cut) for cut in cuts(many)])
            for cut, places in first.items():
                self.assertEqual(order_of(many, list(cut)), places)

    def test_exchanges_go_over_the_cut(self):
        for many in range(1, 7):
            for cut in some_cuts(many):
                told = order_of(many, list(cut))
                self.assertIs(type(told), list)
                self.assertLessEqual({type(place) for place in told}, {int})
                self.assertEqual(sorted(two for two, ahead in met(many, told)), twos(many))
                self.assertEqual(gone_over(many, told), cut)

    def test_of_six_none_is_ahead_of_the_first(self):
        for places in some_exchanges(6, 150):
            self.assertLessEqual(order_of(6, gone_over(6, places)), places)
        # Exchanges that don't touch, taken the other way round, go over the same cut.
        for cut in some_cuts(6)[::5]:
            self.assertTrue(all(one <= other + 1 for one, other in itertools.pairwise(order_of(6, cut))))


class Ways(unittest.TestCase):
    def test_examples(self):
        self.assertEqual([ways(1, []), ways(2, []), ways(3, [0]), ways(3, [1])], [1, 1, 1, 1])
        self.assertEqual([ways(4, cut) for cut in cuts(4)], [2, 1, 4, 1, 1, 4, 1, 2])

    def test_against_all_lists(self):
        for many in range(1, 6):
            first, count = first_and_count(many)
            for cut in cuts(many):
                self.assertEqual(ways(many, cut), count[tuple(cut)])
                self.assertIs(type(ways(many, cut)), int)

    def test_of_all_cuts_together(self):
        for many, wanted in ((1, 1), (2, 1), (3, 2), (4, 16), (5, 768)):
            self.assertEqual(sum(ways(many, cut) for cut in cuts(many)), wanted)
        self.assertEqual(sum(ways(6, cut) for cut in all_cuts(6)), 292864)

    def counted(self, many, cut):
        """How many lists go over the cut, as orders of the twos with each three in one of its two orders."""
        ahead = {two: set() for two in twos(many)}
        for (i, j, k), sign in zip(threes(many), cut):
            order = [(j, k), (i, k), (i, j)] if sign else [(i, j), (i, k), (j, k)]
            ahead[order[1]].add(order[0])
            ahead[order[2]].update(order[:2])
        count = {frozenset(): 1}
        for two in twos(many):
            beyond = {}
            for done, so_far in count.items():
                for new in twos(many):
                    if new not in done and ahead[new] <= done:
                        beyond[done | {new}] = beyond.get(done | {new}, 0) + so_far
            count = beyond
        return sum(count.values())

    def test_six_sticks(self):
        for cut in some_cuts(6)[::6] + [[0] * 20, [1] * 20]:
            self.assertEqual(ways(6, cut), self.counted(6, cut))
        self.assertEqual(self.counted(4, [0, 0, 1, 1]), 4)


class CutOf(unittest.TestCase):
    def test_examples(self):
        self.assertEqual([cut_of(1, []), cut_of(2, [0])], [[], []])
        self.assertEqual([cut_of(3, [0, 1, 0]), cut_of(3, [1, 0, 1])], [[0], [1]])
        self.assertEqual(cut_of(4, [0, 2, 1, 0, 2, 1]), [0, 0, 1, 1])
        self.assertEqual(cut_of(4, [1, 0, 2, 1, 0, 2]), [1, 1, 0, 0])

    def test_all_lists_of_exchanges(self):
        for many in range(1, 7):
            for places in lists_of_exchanges(many):
                told = cut_of(many, list(places))
                self.assertIs(type(told), list)
                self.assertLessEqual({type(sign) for sign in told}, {int})
                self.assertEqual(told, gone_over(many, places))
                self.assertIs(judged(many, told).shows(many, told), True)

    def test_all_lists_of_places_of_three_and_four_sticks(self):
        for many, long in ((1, 2), (2, 3), (3, 4), (4, 6)):
            right = all_exchanges(many)
            for length in range(long + 1):
                for places in itertools.product(range(-1, many), repeat=length):
                    if list(places) in right:
                        self.assertEqual(cut_of(many, list(places)), gone_over(many, places))
                    else:
                        self.assertRaises(BadPlaces, cut_of, many, list(places))

    def test_of_the_first_list_it_is_the_cut(self):
        for many in range(1, 7):
            for cut in some_cuts(many):
                self.assertEqual(cut_of(many, order_of(many, cut)), cut)


if __name__ == "__main__":
    unittest.main()
