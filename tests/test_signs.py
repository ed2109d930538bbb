import itertools
import unittest

from stickbodies import signs

from exchanges import all_signs, broken_fours
from strangers import Hostile, endless, no_numbers


class Places(unittest.TestCase):
    def test_threes_of_few_sticks(self):
        self.assertEqual(signs.threes(1), [])
        self.assertEqual(signs.threes(2), [])
        self.assertEqual(signs.threes(3), [[0, 1, 2]])

    def test_threes_of_four_sticks(self):
        self.assertEqual(signs.threes(4), [[0, 1, 2], [0, 1, 3], [0, 2, 3], [1, 2, 3]])

    def test_how_many_threes(self):
        self.assertEqual([len(signs.threes(many)) for many in range(1, 7)], [0, 0, 1, 4, 10, 20])

    def test_threes_and_fours_rise_in_the_order_of_lists(self):
        for many in range(1, 7):
            self.assertEqual(signs.threes(many), [list(row) for row in itertools.combinations(range(many), 3)])
            self.assertEqual(signs.fours(many), [list(row) for row in itertools.combinations(range(many), 4)])

    def test_threes_of_a_four(self):
        self.assertEqual(signs.threes_of_four([1, 2, 4, 5]), [[1, 2, 4], [1, 2, 5], [1, 4, 5], [2, 4, 5]])

    def test_told_lists_are_new(self):
        told = signs.threes(4)
        told[0].append(9)
        told.pop()
        self.assertEqual(signs.threes(4), [[0, 1, 2], [0, 1, 3], [0, 2, 3], [1, 2, 3]])
        told = signs.fours(4)
        told[0].append(9)
        self.assertEqual(signs.fours(4), [[0, 1, 2, 3]])


class HandedIn(unittest.TestCase):
    def test_counts(self):
        for most in (5, 6):
            self.assertEqual([at for at in range(-3, 12) if signs.is_count(at, most)], list(range(1, most + 1)))
            for stranger in no_numbers():
                self.assertIs(signs.is_count(stranger, most), False)
            self.assertIs(signs.is_count(10 ** 5000, most), False)

    def test_signs(self):
        for many in range(1, 7):
            long = len(signs.threes(many))
            for sign in (0, 1):
                self.assertIs(signs.are_signs(many, [sign] * long), True)
            self.assertIs(signs.are_signs(many, [0] * (long + 1)), False)
            if long:
                self.assertIs(signs.are_signs(many, [0] * (long - 1)), False)

    def test_no_list(self):
        for many in (1, 3, 4):
            for wrong in [None, True, 0, 1, "", "0", b"0", (), (0,), (0, 0, 0, 0), {}, {0: 0}, {0}, range(4), object(),
                          Hostile()]:
                self.assertIs(signs.are_signs(many, wrong), False)

    def test_no_sign_at_each_place(self):
        for wrong in [2, -1, 10 ** 5000, Hostile(), endless(), *no_numbers()]:
            for place in range(4):
                row = [0, 1, 1, 1]
                row[place] = wrong
                self.assertIs(signs.are_signs(4, row), False)

    def test_nothing_handed_in_is_changed(self):
        row = [0, 1, 0, 1]
        signs.are_signs(4, row)
        signs.broken_four(4, row)
        signs.go_together(4, row)
        self.assertEqual(row, [0, 1, 0, 1])

    def test_fours_of_places(self):
        for many in range(1, 7):
            right = signs.fours(many)
            for four in itertools.product(range(-1, 7), repeat=4):
                self.assertIs(signs.is_four(many, list(four)), list(four) in right)
                self.assertIs(signs.is_four(many, four), False)
        for wrong in [[], [0, 1, 2], [0, 1, 2, 3, 4], endless(), [0, True, 2, 3], None, Hostile(), [Hostile()] * 4]:
            self.assertIs(signs.is_four(6, wrong), False)


class Together(unittest.TestCase):
    def test_how_many_go_together(self):
        counts = [len([row for row in all_signs(many) if signs.go_together(many, row)]) for many in range(1, 6)]
        self.assertEqual(counts, [1, 1, 2, 8, 62])

    def test_four_signs(self):
        for row in all_signs(4):
            changed = (row[0] != row[1]) + (row[1] != row[2]) + (row[2] != row[3])
            self.assertEqual(signs.changes(row), changed)
            self.assertIs(signs.go_together(4, row), changed <= 1)
            self.assertIs(signs.breaks(4, row, [0, 1, 2, 3]), changed > 1)
            self.assertEqual(signs.broken_four(4, row), [0, 1, 2, 3] if changed > 1 else None)

    def test_changes_once_at_the_most(self):
        for row in ([0, 0, 0, 0], [1, 1, 1, 1], [0, 0, 0, 1], [1, 1, 0, 0], [0, 1, 1, 1]):
            self.assertIs(signs.go_together(4, row), True)

    def test_changes_twice_or_three_times(self):
        for row in ([0, 1, 0, 0], [0, 1, 1, 0], [1, 0, 0, 1], [1, 1, 0, 1], [0, 1, 0, 1], [1, 0, 1, 0]):
            self.assertIs(signs.go_together(4, row), False)

    def check_found(self, many, row):
        bad = broken_fours(many, row)
        found = signs.broken_four(many, row)
        self.assertIs(signs.go_together(many, row), not bad)
        if not bad:
            self.assertIsNone(found)
            return
        self.assertIs(type(found), list)
        self.assertEqual(found, sorted(set(found)))
        self.assertIn(found, bad)

    def test_found_fours_of_five(self):
        for row in all_signs(5):
            self.check_found(5, row)

    def test_found_fours_of_six(self):
        for at in range(3000):
            number = at * 349 % 1048576
            self.check_found(6, [number >> bit & 1 for bit in range(20)])

    def test_each_four_of_six_can_be_the_broken_one(self):
        for four in itertools.combinations(range(6), 4):
            row = [0] * 20
            row[signs.threes(6).index([four[0], four[1], four[3]])] = 1
            self.assertIs(signs.breaks(6, row, list(four)), True)
            self.check_found(6, row)

    def test_fewer_than_four_sticks_always_go_together(self):
        self.assertIs(signs.go_together(1, []), True)
        self.assertIs(signs.go_together(2, []), True)
        self.assertIs(signs.go_together(3, [0]), True)
        self.assertIs(signs.go_together(3, [1]), True)

    def test_a_row_changed_in_place_is_asked_as_it_is_then(self):
        row = [0, 1, 0, 0]
        found = signs.broken_four(4, row)
        found.append(9)
        row[1] = 0
        self.assertIsNone(signs.broken_four(4, row))
        row[1] = 1
        self.assertEqual(signs.broken_four(4, row), [0, 1, 2, 3])


if __name__ == "__main__":
    unittest.main()
