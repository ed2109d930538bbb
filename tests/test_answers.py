import itertools
import unittest
from fractions import Fraction

from stickbodies.answers import Answer, Apart, Broken, Shares, Whole

from shapes import GREAT, SMALL, hull, room
from strangers import no_numbers

TWO = [(2, 0), (1, 3)]
THREE = [(2, 0), (1, 3), (-2, 1)]
SIX = [(1, 0), (2, 1), (1, 1), (0, 1), (-1, 1), (-2, 1)]
HUGE = 10 ** 20 + 39


class Kinds(unittest.TestCase):
    def test_each_class_is_straight_under_answer(self):
        for kind in (Shares, Apart, Whole, Broken):
            self.assertEqual(kind.__bases__, (Answer,))
            self.assertIn("shows", vars(kind))
        self.assertEqual(Answer.__bases__, (object,))

    def test_fields(self):
        self.assertEqual(vars(Shares([(1, 2)])), {"shares": [(1, 2)]})
        self.assertEqual(vars(Apart((1, -2))), {"line": (1, -2)})
        self.assertEqual(vars(Whole()), {})
        self.assertEqual(vars(Broken([0, 1, 2, 3])), {"four": [0, 1, 2, 3]})

    def test_fields_are_kept_as_they_are(self):
        self.assertEqual(Shares([(2, 4), (-1, 0)]).shares, [(2, 4), (-1, 0)])
        self.assertEqual(Shares([]).shares, [])
        self.assertEqual(Apart((0, 0)).line, (0, 0))
        self.assertEqual(Broken([7, -1]).four, [7, -1])

    def test_lists_are_copied(self):
        shares = [(1, 3), (1, 3)]
        answer = Shares(shares)
        shares[0] = (9, 9)
        shares.clear()
        self.assertEqual(answer.shares, [(1, 3), (1, 3)])
        self.assertIs(answer.shows(TWO, (1, 1)), True)
        four = [0, 1, 2, 3]
        answer = Broken(four)
        four.append(4)
        self.assertEqual(answer.four, [0, 1, 2, 3])
        self.assertIs(answer.shows(4, [0, 1, 0, 0]), True)

    def test_answers_don_t_share_their_lists(self):
        shares = [(1, 3), (1, 3)]
        one, other = Shares(shares), Shares(shares)
        one.shares.pop()
        self.assertEqual((other.shares, shares), ([(1, 3), (1, 3)], [(1, 3), (1, 3)]))

    def test_asking_changes_nothing(self):
        sticks, cut = list(TWO), [0, 1, 0, 0]
        answers = [Shares([(1, 3), (1, 3)]), Apart((0, 1)), Whole(), Broken([0, 1, 2, 3])]
        before = [dict(vars(answer)) for answer in answers]
        for answer in answers[:2]:
            answer.shows(sticks, (1, 1))
        for answer in answers[2:]:
            answer.shows(4, cut)
        self.assertEqual((sticks, cut, [vars(answer) for answer in answers]), (TWO, [0, 1, 0, 0], before))


class SharesShow(unittest.TestCase):
    def check(self, shares, sticks, point, truth):
        with self.subTest(shares=shares, sticks=sticks, point=point):
            self.assertIs(Shares(shares).shows(sticks, point), truth)

    def test_shares_that_lead_there(self):
        self.check([(1, 3), (1, 3)], TWO, (1, 1), True)
        self.check([(0, 1), (0, 1)], TWO, (0, 0), True)
        self.check([(1, 1), (1, 1)], TWO, (3, 3), True)
        self.check([(5, 6), (1, 3)], TWO, (2, 1), True)
        self.check([(3, 4)], [(-20, 16)], (-15, 12), True)
        self.check([(1, 1), (1, 2), (0, 1), (1, 1), (1, 1), (1, 2)], SIX, (0, 3), True)

    def test_which_shares_is_free(self):
        for shares in ([(1, 2)] * 6, [(0, 1), (1, 1), (1, 1), (0, 1), (0, 1), (1, 1)], [(1, 4)] * 3 + [(3, 4)] * 3):
            led = [sum(Fraction(*share) * stick[at] for share, stick in zip(shares, SIX)) for at in (0, 1)]
            whole = [tuple(8 * number for number in stick) for stick in SIX]
            self.check(shares, whole, (int(led[0] * 8), int(led[1] * 8)), True)

    def test_another_point(self):
        for x, y in room(hull(TWO)):
            self.check([(1, 3), (1, 3)], TWO, (x, y), (x, y) == (1, 1))
        self.check([(1, 3), (1, 3)], TWO, (HUGE, -HUGE), False)

    def test_other_sticks(self):
        self.check([(1, 3), (1, 3)], [(2, 0), (1, 4)], (1, 1), False)
        self.check([(1, 3), (1, 3)], [(3, 0), (0, 3)], (1, 1), True)

    def test_not_in_lowest_terms(self):
        for by in (2, 3, -1, HUGE):
            for at in (0, 1):
                shares = [(1, 3), (1, 3)]
                shares[at] = (by, 3 * by)
                self.check(shares, TWO, (1, 1), False)
        self.check([(2, 2), (0, 1)], TWO, (2, 0), False)
        self.check([(1, 1), (0, 2)], TWO, (2, 0), False)
        self.check([(1, 1), (0, HUGE)], TWO, (2, 0), False)
        self.check([(1, 1), (0, 1)], TWO, (2, 0), True)

    def test_bottoms_of_0_and_below(self):
        for wrong in ((0, 0), (1, 0), (-1, 0), (HUGE, 0), (0, -1), (-1, -1), (1, -1), (-1, -3), (1, -3)):
            self.check([wrong, (0, 1)], TWO, (0, 0), False)
            self.check([(0, 1), wrong], TWO, (0, 0), False)
            self.check([wrong], [(3, 0)], (1, 0), False)
            self.check([wrong], [(3, 0)], (0, 0), False)
            self.check([wrong], [(3, 0)], (3, 0), False)
            self.check([wrong], [(3, 0)], (-3, 0), False)

    def test_tops_below_0_or_beyond_the_bottom(self):
        self.check([(-1, 2), (0, 1)], TWO, (-1, 0), False)
        self.check([(-1, 1), (0, 1)], TWO, (-2, 0), False)
        self.check([(3, 2), (0, 1)], TWO, (3, 0), False)
        self.check([(2, 1), (0, 1)], TWO, (4, 0), False)
        self.check([(0, 1), (4, 3)], [(1, 0), (0, 3)], (0, 4), False)
        # With one beyond and one below, a point of the body itself is led to.
        self.check([(-1, 2), (1, 1), (3, 2)], [(2, 0), (2, 2), (0, 2)], (1, 5), False)
        self.check([(-1, 1), (1, 1), (0, 1)], [(1, 0), (1, 1), (0, 1)], (0, 1), False)

    def test_too_few_and_too_many(self):
        right = [(1, 3), (1, 3)]
        self.check(right[:1], TWO, (1, 1), False)
        self.check([], TWO, (1, 1), False)
        self.check([], TWO, (0, 0), False)
        self.check([], [(2, 0)], (0, 0), False)
        self.check(right + [(0, 1)], TWO, (1, 1), False)
        self.check([(0, 1)] + right, TWO, (1, 1), False)
        self.check([(0, 1)], TWO, (0, 0), False)
        self.check([(0, 1)] * 1000, TWO, (0, 0), False)
        self.check([(1, 1)], TWO, (2, 0), False)

    def test_bent_in_one_place(self):
        right = [(1, 3), (1, 2), (1, 5)]
        sticks = [(15, 0), (4, 6), (-10, 20)]
        self.check(right, sticks, (5, 7), True)
        for at, bent in itertools.product(range(3), [(0, 1), (1, 1), (1, 4), (2, 3), (HUGE, 3 * HUGE - 1), (1, HUGE)]):
            self.check(right[:at] + [bent] + right[at + 1:], sticks, (5, 7), False)

    def test_great_numbers(self):
        self.check([(HUGE, HUGE + 1), (1, HUGE + 1)], [(1, 0), (1, 1)], (1, 0), False)
        # Off by less than any float could tell.
        self.check([(HUGE, 2 * HUGE + 1)], [(2, 0)], (1, 0), False)
        self.check([(1, 2)], [(2, 0)], (1, 0), True)
        # Three shares of great bottoms lead to a whole point together.
        self.check([(HUGE - 1, HUGE), (1, HUGE), (1, HUGE)], [(1, 0), (1, 1), (0, 1)], (1, 0), False)
        self.check([(HUGE - 1, HUGE), (1, HUGE), (HUGE - 1, HUGE)], [(1, 0), (1, 1), (0, 1)], (1, 1), True)

    def test_against_fractions(self):
        some = [(0, 1), (1, 1), (1, 2), (2, 4), (2, 1), (-1, 2), (1, -2), (0, 2)]
        for sticks in ([(2, 0), (1, 2)], [(2, 0), (2, 2), (-2, 4)]):
            for shares in itertools.product(some, repeat=len(sticks)):
                led = [sum(Fraction(*share) * stick[at] for share, stick in zip(shares, sticks)) for at in (0, 1)]
                right = all(0 <= Fraction(*share) <= 1 and share[1] > 0
                            and Fraction(*share).denominator == share[1] for share in shares)
                for point in room(hull(sticks)):
                    self.check(list(shares), sticks, point, right and led == list(point))

    def test_a_field_that_is_changed(self):
        answer = Shares([(1, 3), (1, 3)])
        self.assertIs(answer.shows(TWO, (1, 1)), True)
        answer.shares[1] = (1, 2)
        self.assertIs(answer.shows(TWO, (1, 1)), False)
        answer.shares = [(0, 1), (1, 1)]
        self.assertIs(answer.shows(TWO, (1, 1)), False)
        self.assertIs(answer.shows(TWO, (1, 3)), True)
        answer.shares.append((0, 1))
        self.assertIs(answer.shows(TWO, (1, 3)), False)
        self.assertIs(answer.shows(THREE, (1, 3)), True)
        answer.shares = ((1, 3), (1, 3))
        self.assertIs(answer.shows(TWO, (1, 1)), False)
        answer.shares = None
        self.assertIs(answer.shows(TWO, (1, 1)), False)

    def test_no_shares(self):
        for wrong in [(1, 1, 1), (1,), (), [1, 1], (True, 1), (1, True), None, 1, "11"]:
            self.check([wrong], [(2, 0)], (2, 0), False)
        for stranger in no_numbers():
            self.check([(stranger, 1)], [(2, 0)], (0, 0), False)


class ApartShows(unittest.TestCase):
    def check(self, line, sticks, point, truth):
        with self.subTest(line=line, sticks=sticks, point=point):
            self.assertIs(Apart(line).shows(sticks, point), truth)

    def test_lines_that_part(self):
        self.check((0, 1), TWO, (0, 4), True)
        self.check((0, -1), TWO, (1, -1), True)
        self.check((1, 0), TWO, (4, 0), True)
        self.check((-3, 1), TWO, (0, 1), True)
        self.check((-3, 1), TWO, (-1, -2), True)

    def test_no_line(self):
        for sticks in SMALL + GREAT:
            for point in ((0, 0), (1, 1), (-50, 7), (10 ** 30, 10 ** 30)):
                self.check((0, 0), sticks, point, False)

    def test_along_a_side(self):
        # The point has as much as the corners of a side have, but no more.
        self.check((0, 1), TWO, (50, 3), False)
        self.check((0, -1), TWO, (50, 0), False)
        self.check((3, -1), TWO, (2, 0), False)
        self.check((3, -1), TWO, (4, 6), False)
        self.check((3, -1), TWO, (4, 5), True)

    def test_turned_about(self):
        self.check((0, 1), TWO, (0, 4), True)
        self.check((0, -1), TWO, (0, 4), False)
        self.check((1, 0), TWO, (4, 0), True)
        self.check((-1, 0), TWO, (4, 0), False)

    def test_great_numbers(self):
        self.check((HUGE, -HUGE), TWO, (4, 0), True)
        self.check((-HUGE, HUGE), TWO, (4, 0), False)
        self.check((HUGE, 1), TWO, (3, 4), True)
        self.check((HUGE, 1), TWO, (3, 3), False)
        self.check((HUGE, -1), TWO, (3, 4), False)
        self.check((-1, HUGE), TWO, (0, 3), True)
        self.check((-1, HUGE), TWO, (1, 3), False)

    def test_one_stick(self):
        self.check((1, 2), [(1, 2)], (2, 4), True)
        self.check((1, 2), [(1, 2)], (1, 2), False)
        self.check((-1, -2), [(1, 2)], (-1, -2), True)
        self.check((-1, -2), [(1, 2)], (0, 0), False)
        self.check((2, -1), [(1, 2)], (2, 4), False)
        self.check((2, -1), [(1, 2)], (1, 0), True)

    def test_against_all_corners(self):
        lines = [(u, v) for u in range(-3, 4) for v in range(-3, 4)]
        for sticks in SMALL[::2]:
            about = hull(sticks)
            for point in room(about):
                for u, v in lines:
                    least = min(u * (point[0] - x) + v * (point[1] - y) for x, y in about)
                    self.check((u, v), sticks, point, least > 0)

    def test_a_field_that_is_changed(self):
        answer = Apart((0, 1))
        self.assertIs(answer.shows(TWO, (0, 4)), True)
        answer.line = (0, -1)
        self.assertIs(answer.shows(TWO, (0, 4)), False)
        self.assertIs(answer.shows(TWO, (0, -4)), True)

    def test_no_pair(self):
        for wrong in [(0, 1, 0), (1,), (), (False, True), (0, True), None, 1, "01"]:
            self.check(wrong, TWO, (0, 4), False)


class WholeAndBrokenShow(unittest.TestCase):
    def all_signs(self, many):
        long = len(list(itertools.combinations(range(many), 3)))
        return [list(row) for row in itertools.product((0, 1), repeat=long)]

    def broken(self, many, cut):
        """All fours whose signs change more than once."""
        sign = dict(zip(itertools.combinations(range(many), 3), cut))
        return [list(four) for four in itertools.combinations(range(many), 4)
                if len(list(itertools.groupby(sign[three] for three in itertools.combinations(four, 3)))) > 2]

    def check_all_fours(self, many, cut):
        wrong = self.broken(many, cut)
        self.assertIs(Whole().shows(many, cut), not wrong)
        for four in itertools.combinations(range(many), 4):
            self.assertIs(Broken(list(four)).shows(many, cut), list(four) in wrong, (many, cut, four))

    def test_few_sticks_are_always_whole(self):
        for many, cut in [(1, []), (2, []), (3, [0]), (3, [1])]:
            self.assertIs(Whole().shows(many, cut), True)
            for four in itertools.product(range(-1, 4), repeat=4):
                self.assertIs(Broken(list(four)).shows(many, cut), False)

    def test_four_and_five_sticks(self):
        for many in (4, 5):
            for cut in self.all_signs(many):
                self.check_all_fours(many, cut)

    def test_six_sticks(self):
        for at in range(500):
            number = at * 2099 % 1048576
            self.check_all_fours(6, [number >> bit & 1 for bit in range(20)])
        for cut in ([0] * 20, [1] * 20):
            self.check_all_fours(6, cut)

    def test_one_broken_four_of_six(self):
        cut = [1, 1, 1, 1, 1, 1, 1, 1, 1, 1, 1, 1, 1, 1, 1, 1, 1, 1, 1, 1]
        threes = list(itertools.combinations(range(6), 3))
        cut[threes.index((2, 3, 5))] = 0
        self.assertIs(Whole().shows(6, cut), False)
        self.assertIs(Broken([2, 3, 4, 5]).shows(6, cut), True)
        self.assertIs(Broken([0, 1, 2, 3]).shows(6, cut), False)

    def test_fours_that_are_no_four_rising_places(self):
        cut = [0, 1, 0, 0]
        self.assertIs(Broken([0, 1, 2, 3]).shows(4, cut), True)
        for wrong in [[], [0], [0, 1, 2], [1, 2, 3], [0, 1, 2, 3, 4], [0, 1, 2, 3, 3], [0, 0, 1, 2, 3], [3, 2, 1, 0],
                      [0, 2, 1, 3], [0, 1, 3, 2], [1, 0, 2, 3], [0, 0, 0, 0], [0, 1, 2, 2], [0, 1, 1, 3], [0, 0, 2, 3],
                      [-1, 0, 1, 2], [-4, -3, -2, -1], [0, 1, 2, -1], [0, 1, 2, 4], [1, 2, 3, 4], [0, 1, 2, HUGE],
                      [-HUGE, 1, 2, 3], [HUGE] * 4, list(range(1000)), [0, 1, 2, 3] * 2, [0, True, 2, 3],
                      [False, 1, 2, 3], [0, 1.0, 2, 3], [None] * 4]:
            with self.subTest(wrong):
                self.assertIs(Broken(wrong).shows(4, cut), False)

    def test_places_that_are_there_in_more_sticks_only(self):
        cut = [0] * 20
        cut[list(itertools.combinations(range(6), 3)).index((2, 3, 5))] = 1
        self.assertIs(Broken([2, 3, 4, 5]).shows(6, cut), True)
        self.assertIs(Broken([2, 3, 4, 5]).shows(5, [0, 1] * 5), False)
        self.assertIs(Broken([2, 3, 4, 5]).shows(4, [0, 1, 0, 1]), False)

    def test_fields_that_are_changed(self):
        answer = Broken([0, 1, 2, 3])
        cut = [0, 1, 0, 0]
        self.assertIs(answer.shows(4, cut), True)
        answer.four[3] = 4
        self.assertIs(answer.shows(4, cut), False)
        answer.four = [0, 1, 2, 3]
        self.assertIs(answer.shows(4, cut), True)
        answer.four.reverse()
        self.assertIs(answer.shows(4, cut), False)
        answer.four = (0, 1, 2, 3)
        self.assertIs(answer.shows(4, cut), False)
        answer.four = None
        self.assertIs(answer.shows(4, cut), False)

    def test_a_cut_that_is_changed_in_place(self):
        answer, cut = Whole(), [0, 0, 0, 1]
        self.assertIs(answer.shows(4, cut), True)
        cut[1] = 1
        self.assertIs(answer.shows(4, cut), False)
        self.assertIs(Broken([0, 1, 2, 3]).shows(4, cut), True)
        cut[2] = 1
        self.assertIs(answer.shows(4, cut), True)


if __name__ == "__main__":
    unittest.main()
