import collections
import unittest

from closering.errors import BadWeb, Unlike
from closering.webs import Web, about, alike, together

MOST = 1000000

# Of every kind, and none of them a whole number.
NO_NUMBERS = (True, False, None, "", "1", b"1", 1.0, 0.0, float("nan"), float("inf"), 1j, [], [1], (), (1,), {}, {1: 1},
              set(), range(1), object(), int, Web(1, [], 0))

# Of every kind, and none of them a list.
NO_LISTS = (None, True, False, 0, 1, "", "ties", (), ((0, 1, 2),), {}, {0: (0, 1, 2)}, set(), range(0), iter([]),
            1.5, object(), list, Web(1, [], 0))

# Of every kind, and none of them a triple.
NO_TRIPLES = (None, True, False, 0, 1, "", "012", b"012", [], [0, 1, 2], (), (0,), (0, 1), (0, 1, 2, 0), {},
              {0: 0, 1: 1, 2: 2}, range(3), 1.5, object(), tuple, Web(1, [], 0))


class Refusals(unittest.TestCase):
    def refuses(self, points, ties, turn):
        with self.subTest(points=points, ties=ties, turn=turn):
            self.assertRaises(BadWeb, Web, points, ties, turn)

    def refuses_tie(self, tie, points=4):
        good = (0, 1, 2)
        for ties in ([tie], [tie, good, good], [good, tie, good], [good, good, tie]):
            self.refuses(points, ties, 0)


class WebsThatThereAre(unittest.TestCase):
    def told(self, points, ties, turn):
        web = Web(points, ties, turn)
        self.assertEqual((web.points, web.ties(), web.turn), (points, ties, turn))
        for value in (web.points, web.turn):
            self.assertIs(type(value), int)
        self.assertIs(type(web.ties()), list)

    def test_an_ordinary_web(self):
        self.told(3, [(0, 1, 5), (2, 1, -7), (2, 0, 0)], 12)

    def test_by_the_names_of_the_arguments(self):
        web = Web(turn=3, ties=[(1, 0, 4)], points=2)
        self.assertEqual((web.points, web.ties(), web.turn), (2, [(1, 0, 4)], 3))

    def test_the_fewest_and_the_most_points(self):
        self.told(1, [], 0)
        self.told(MOST, [], 0)
        self.told(MOST, [(0, MOST - 1, 1), (MOST - 1, 0, 1)], 0)

    def test_no_ties(self):
        self.told(5, [], 7)

    def test_several_ties_between_two_points(self):
        self.told(2, [(0, 1, 3), (0, 1, 3), (1, 0, 3), (0, 1, -4)], 0)

    def test_the_least_and_the_greatest_number(self):
        self.told(2, [(0, 1, -MOST), (0, 1, MOST), (1, 0, 0)], 5)

    def test_the_least_and_the_greatest_round(self):
        for turn in (0, 1, MOST - 1, MOST):
            self.told(2, [(0, 1, 9)], turn)

    def test_many_ties(self):
        self.told(1000, [(k % 1000, (k + 1) % 1000, k) for k in range(50000)], 0)


class WebsThatThereAreNot(Refusals):
    def test_too_few_and_too_many_points(self):
        for points in (0, -1, -MOST, MOST + 1, 10 ** 5000, -10 ** 5000):
            self.refuses(points, [], 0)

    def test_a_round_below_and_beyond(self):
        for turn in (-1, -MOST, MOST + 1, 10 ** 5000, -10 ** 5000):
            self.refuses(1, [], turn)

    def test_a_number_below_and_beyond(self):
        for number in (-MOST - 1, MOST + 1, 10 ** 5000, -10 ** 5000):
            self.refuses_tie((0, 1, number))

    def test_a_tie_from_a_point_to_itself(self):
        for point in range(4):
            self.refuses_tie((point, point, 0))
        self.refuses(1, [(0, 0, 0)], 0)

    def test_a_point_below_0(self):
        self.refuses_tie((-1, 0, 0))
        self.refuses_tie((0, -1, 0))
        self.refuses_tie((-10 ** 5000, 0, 0))

    def test_a_point_that_there_is_not(self):
        for point in (4, 5, MOST, 10 ** 5000):
            self.refuses_tie((point, 0, 0))
            self.refuses_tie((0, point, 0))
        self.refuses(1, [(0, 1, 0)], 0)
        self.refuses(MOST, [(0, MOST, 0)], 0)

    def test_what_is_no_number_in_place_of_the_points(self):
        for value in NO_NUMBERS:
            self.refuses(value, [], 0)
            self.refuses(value, [(0, 1, 2)], 0)

    def test_what_is_no_number_in_place_of_the_round(self):
        for value in NO_NUMBERS:
            self.refuses(2, [], value)
            self.refuses(2, [(0, 1, 2)], value)

    def test_what_is_no_number_in_a_tie(self):
        for value in NO_NUMBERS:
            for other in (0, 1, 2):
                self.refuses_tie((value, other, 0))
                self.refuses_tie((other, value, 0))
            self.refuses_tie((0, 1, value))

    def test_what_is_no_list_in_place_of_the_ties(self):
        for value in NO_LISTS:
            self.refuses(2, value, 0)

    def test_what_is_no_triple_in_place_of_a_tie(self):
        for value in NO_TRIPLES:
            self.refuses_tie(value)

    def test_several_faults_at_once(self):
        self.refuses(None, None, None)
        self.refuses(0, [None], -1)
        self.refuses("2", [(0, 0, "")], True)


class WhatIsKept(unittest.TestCase):
    def test_the_list_handed_in_stays(self):
        ties = [(0, 1, 5), (1, 0, 3)]
        Web(2, ties, 0).ties()
        self.assertEqual(ties, [(0, 1, 5), (1, 0, 3)])

    def test_a_refused_list_stays(self):
        ties = [(0, 1, 5), [1, 0, 3]]
        self.assertRaises(BadWeb, Web, 2, ties, 0)
        self.assertEqual(ties, [(0, 1, 5), [1, 0, 3]])

    def test_changing_the_list_afterwards_does_not_change_the_web(self):
        ties = [(0, 1, 5), (1, 0, 3)]
        web = Web(2, ties, 0)
        ties.append((0, 1, 7))
        ties[0] = None
        self.assertEqual(web.ties(), [(0, 1, 5), (1, 0, 3)])

    def test_changing_what_ties_told_does_not_change_the_web(self):
        web = Web(2, [(0, 1, 5), (1, 0, 3)], 0)
        told = web.ties()
        told.append((0, 1, 7))
        told[0] = None
        self.assertEqual(web.ties(), [(0, 1, 5), (1, 0, 3)])

    def test_a_tuple_of_the_callers_own_kind_is_not_kept(self):
        kind = collections.namedtuple("kind", "first second number")
        told = Web(2, [kind(0, 1, 5)], 0).ties()
        self.assertEqual(told, [(0, 1, 5)])
        self.assertIs(type(told[0]), tuple)


class AlikeByTheRound(unittest.TestCase):
    def test_round_0_asks_for_one_number(self):
        for one in range(-5, 6):
            for other in range(-5, 6):
                self.assertIs(alike(one, other, 0), one == other)

    def test_round_1_has_all_alike(self):
        for one in range(-5, 6):
            for other in range(-5, 6):
                self.assertIs(alike(one, other, 1), True)

    def test_other_rounds_ask_for_some_rounds_between(self):
        for turn in range(2, 8):
            for one in range(-15, 16):
                for other in range(-15, 16):
                    some = any(one + rounds * turn == other for rounds in range(-31, 32))
                    self.assertIs(alike(one, other, turn), some)

    def test_the_greatest_round(self):
        self.assertTrue(alike(-MOST, MOST, MOST))
        self.assertTrue(alike(0, -MOST, MOST))
        self.assertFalse(alike(-1, 1, MOST))
        self.assertFalse(alike(1 - MOST, MOST, MOST))


class TurnedAbout(unittest.TestCase):
    def test_each_tie_turned_in_the_same_turn(self):
        web = about(Web(4, [(0, 1, 5), (3, 2, -7), (1, 0, 0), (0, 1, MOST), (2, 3, -MOST)], 12))
        self.assertIsInstance(web, Web)
        self.assertEqual((web.points, web.turn), (4, 12))
        self.assertEqual(web.ties(), [(1, 0, -5), (2, 3, 7), (0, 1, 0), (1, 0, -MOST), (3, 2, MOST)])

    def test_no_ties(self):
        web = about(Web(1, [], 0))
        self.assertEqual((web.points, web.ties(), web.turn), (1, [], 0))

    def test_turned_about_twice_it_is_the_first_web(self):
        ties = [(0, 1, 5), (3, 2, -7), (1, 0, 0)]
        web = about(about(Web(4, ties, 3)))
        self.assertEqual((web.points, web.ties(), web.turn), (4, ties, 3))

    def test_the_web_handed_in_stays(self):
        web = Web(2, [(0, 1, 5)], 3)
        self.assertIsNot(about(web), web)
        self.assertEqual((web.points, web.ties(), web.turn), (2, [(0, 1, 5)], 3))


class PutTogether(unittest.TestCase):
    def test_the_second_ones_ties_stand_behind_the_first_ones(self):
        web = together(Web(3, [(0, 1, 5), (1, 2, 6)], 12), Web(3, [(0, 1, 5), (2, 0, -1)], 12))
        self.assertIsInstance(web, Web)
        self.assertEqual((web.points, web.turn), (3, 12))
        self.assertEqual(web.ties(), [(0, 1, 5), (1, 2, 6), (0, 1, 5), (2, 0, -1)])

    def test_with_a_web_without_ties(self):
        bare = Web(2, [], 0)
        full = Web(2, [(0, 1, 5)], 0)
        self.assertEqual(together(bare, full).ties(), [(0, 1, 5)])
        self.assertEqual(together(full, bare).ties(), [(0, 1, 5)])
        self.assertEqual(together(bare, bare).ties(), [])

    def test_with_itself(self):
        web = Web(2, [(0, 1, 5)], 0)
        self.assertEqual(together(web, web).ties(), [(0, 1, 5), (0, 1, 5)])
        self.assertEqual(web.ties(), [(0, 1, 5)])

    def test_other_points_or_rounds(self):
        one = Web(3, [(0, 1, 5)], 12)
        for points, turn in ((2, 12), (4, 12), (3, 0), (3, 11), (3, 24), (2, 0), (12, 3)):
            with self.subTest(points=points, turn=turn):
                other = Web(points, [(0, 1, 5)], turn)
                self.assertRaises(Unlike, together, one, other)
                self.assertRaises(Unlike, together, other, one)

    def test_what_is_no_web(self):
        web = Web(2, [], 0)
        for value in (None, True, 2, "2/0", [], (2, [], 0), {"points": 2, "turn": 0}, object(), Web):
            with self.subTest(value=value):
                self.assertRaises(Unlike, together, web, value)
                self.assertRaises(Unlike, together, value, web)
                self.assertRaises(Unlike, together, value, value)

    def test_the_webs_handed_in_stay(self):
        one = Web(2, [(0, 1, 5)], 3)
        other = Web(2, [(1, 0, 6)], 3)
        both = together(one, other)
        both.ties().append(None)
        self.assertEqual((one.points, one.ties(), one.turn), (2, [(0, 1, 5)], 3))
        self.assertEqual((other.points, other.ties(), other.turn), (2, [(1, 0, 6)], 3))
        self.assertEqual(both.ties(), [(0, 1, 5), (1, 0, 6)])


if __name__ == "__main__":
    unittest.main()
