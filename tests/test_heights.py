"""Points 3 and 7: heights or a ring, camps or a quarrel."""

import unittest

import reckoning
from closering.answers import Camps, Heights, Quarrel, Ring
from closering.heights import camps, levels
from closering.webs import Web

MOST = 1000000


class Levels(unittest.TestCase):
    def check(self, web):
        """Tells whether heights were told."""
        made = Web(*web)
        answer = levels(made)
        with self.subTest(web=web, fields=vars(answer)):
            if reckoning.has_bad_ring(web):
                self.assertIs(type(answer), Ring)
                self.assertTrue(reckoning.ring_holds(web, answer.steps))
            else:
                self.assertIs(type(answer), Heights)
                self.assertTrue(reckoning.heights_hold(web, answer.heights))
                self.assertTrue(all(type(height) is int for height in answer.heights))
            self.assertIs(answer.shows(made), True)
            self.assertEqual((made.points, made.ties(), made.turn), web)
        return type(answer) is Heights

    def test_many_small_webs(self):
        told = [self.check(web) for web in reckoning.small_webs()]
        self.assertGreater(told.count(True), 200)
        self.assertGreater(told.count(False), 200)

    def test_without_ties(self):
        for turn in reckoning.ROUNDS:
            for points in (1, 2, 5):
                self.assertTrue(self.check((points, [], turn)))

    def test_one_tie_alone_always_fits(self):
        for turn in reckoning.ROUNDS:
            for number in (0, 1, -1, 7, MOST, -MOST):
                self.assertTrue(self.check((2, [(0, 1, number)], turn)))
                self.assertTrue(self.check((3, [(2, 1, number)], turn)))

    def test_two_ties_between_two_points(self):
        self.assertTrue(self.check((2, [(0, 1, 5), (0, 1, 5)], 0)))
        self.assertTrue(self.check((2, [(0, 1, 5), (1, 0, -5)], 0)))
        self.assertFalse(self.check((2, [(0, 1, 5), (1, 0, 5)], 0)))
        self.assertFalse(self.check((2, [(0, 1, 5), (0, 1, 6)], 0)))

    def test_by_the_round(self):
        for turn, fits in ((0, False), (1, True), (2, True), (3, True), (4, True), (5, False), (6, True), (12, True), (24, False),
                           (MOST, False)):
            self.assertEqual(self.check((3, [(0, 1, 5), (1, 2, 6), (2, 0, 1)], turn)), fits)
            self.assertEqual(self.check((3, [(0, 1, -5), (1, 2, -6), (2, 0, -1)], turn)), fits)

    def test_the_greatest_numbers(self):
        self.assertTrue(self.check((3, [(0, 1, MOST), (1, 2, MOST)], 0)))
        self.assertFalse(self.check((3, [(0, 1, MOST), (1, 2, MOST), (0, 2, MOST)], 0)))
        self.assertTrue(self.check((3, [(0, 1, MOST), (1, 2, MOST), (0, 2, MOST)], MOST)))
        self.assertTrue(self.check((2, [(0, 1, MOST), (0, 1, -MOST)], MOST)))
        self.assertFalse(self.check((2, [(0, 1, MOST), (0, 1, -MOST)], MOST - 1)))

    def test_a_ring_far_from_the_first_point(self):
        self.assertFalse(self.check((7, [(0, 1, 1), (4, 3, 1), (4, 5, 1), (5, 6, 1), (6, 4, 1)], 0)))

    def test_each_time_a_new_answer(self):
        for web in (Web(2, [(0, 1, 5)], 0), Web(2, [(0, 1, 5), (0, 1, 6)], 0)):
            one, other = levels(web), levels(web)
            self.assertIsNot(one, other)
            self.assertEqual(vars(one), vars(other))
            for field in vars(one):
                self.assertIsNot(getattr(one, field), getattr(other, field))


class InCamps(unittest.TestCase):
    def check(self, web):
        """Tells whether camps were told."""
        made = Web(*web)
        answer = camps(made)
        with self.subTest(web=web, fields=vars(answer)):
            if reckoning.has_quarrel(web):
                self.assertIs(type(answer), Quarrel)
                self.assertIs(type(answer.tie), int)
                self.assertTrue(reckoning.quarrel_holds(web, answer.tie, answer.steps))
            else:
                self.assertIs(type(answer), Camps)
                self.assertTrue(reckoning.camps_hold(web, answer.camps))
                self.assertTrue(all(type(camp) is int for camp in answer.camps))
            self.assertIs(answer.shows(made), True)
            self.assertEqual((made.points, made.ties(), made.turn), web)
        return type(answer) is Camps

    def test_many_small_webs(self):
        told = [self.check(web) for web in reckoning.small_webs()]
        self.assertGreater(told.count(True), 200)
        self.assertGreater(told.count(False), 100)

    def test_without_ties(self):
        for turn in reckoning.ROUNDS:
            for points in (1, 2, 5):
                self.assertTrue(self.check((points, [], turn)))

    def test_friends_alone_and_foes_alone(self):
        self.assertTrue(self.check((3, [(0, 1, 0), (1, 2, 0), (2, 0, 0)], 0)))
        self.assertTrue(self.check((4, [(0, 1, 3), (1, 2, 3), (2, 0, 3), (2, 3, -3), (3, 0, 1), (3, 1, 1)], 0)))

    def test_a_friend_and_a_foe_between_two_points(self):
        self.assertFalse(self.check((2, [(0, 1, 0), (0, 1, 3)], 0)))
        self.assertFalse(self.check((2, [(0, 1, 3), (1, 0, 0)], 0)))
        self.assertTrue(self.check((2, [(0, 1, 3), (1, 0, 0)], 1)))
        self.assertTrue(self.check((2, [(0, 1, 3), (1, 0, 0)], 3)))
        self.assertFalse(self.check((2, [(0, 1, 3), (1, 0, 0)], 2)))

    def test_camps_are_not_told_by_the_round(self):
        # Three camps, each the others' foe: by the round 2 there would not be three numbers that aren't alike.
        self.assertTrue(self.check((3, [(0, 1, 1), (1, 2, 1), (2, 0, 1)], 2)))

    def test_a_quarrel_by_several_friends(self):
        self.assertFalse(self.check((5, [(3, 4, 1), (0, 3, 12), (1, 0, -24), (1, 2, 0), (2, 4, 12)], 12)))

    def test_each_time_a_new_answer(self):
        for web in (Web(2, [(0, 1, 5)], 0), Web(2, [(0, 1, 5), (0, 1, 0)], 0)):
            one, other = camps(web), camps(web)
            self.assertIsNot(one, other)
            self.assertEqual(vars(one), vars(other))
            for field in set(vars(one)) - {"tie"}:
                self.assertIsNot(getattr(one, field), getattr(other, field))


if __name__ == "__main__":
    unittest.main()
