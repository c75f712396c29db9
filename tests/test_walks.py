import unittest

from closering.walks import BACK, FORTH, is_step, is_straight, leg, legs, rise, stops
from closering.webs import Web

TIES = [(0, 1, 5), (1, 2, -3), (2, 0, 7), (2, 3, 0), (0, 1, 9), (4, 5, 1000000)]
WEB = Web(6, TIES, 4)

# Each is no pair, has no tie of the web, or no way.
NO_STEPS = (None, True, 0, "", "01", [], [0, 1], (), (0,), (0, 1, 1), {0: 1}, (-1, 1), (6, 1), (7, -1), (None, 1),
            (True, 1), (False, 1), ("0", 1), ([0], 1), ((0, 1), 1), (0.0, 1), (0, 0), (0, 2), (0, -2), (0, None),
            (0, True), (0, False), (0, "1"), (0, [1]), (0, 1.0), (0, 10 ** 5000), (10 ** 5000, 1))


class Steps(unittest.TestCase):
    def test_the_ways(self):
        self.assertEqual((FORTH, BACK), (1, -1))

    def test_each_tie_has_a_step_forth_and_one_back(self):
        for tie in range(len(TIES)):
            self.assertIs(is_step(TIES, (tie, 1)), True)
            self.assertIs(is_step(TIES, (tie, -1)), True)

    def test_what_is_no_step(self):
        for value in NO_STEPS:
            with self.subTest(value=value):
                self.assertIs(is_step(TIES, value), False)

    def test_without_ties_there_is_no_step(self):
        self.assertIs(is_step([], (0, 1)), False)
        self.assertIs(is_step([], (-1, 1)), False)

    def test_forth_and_back(self):
        self.assertEqual(leg(TIES, (1, 1)), (1, 2, -3))
        self.assertEqual(leg(TIES, (1, -1)), (2, 1, 3))


class WalksThatThereAre(unittest.TestCase):
    def walk(self, start, steps, passed, climb):
        handed = list(steps)
        self.assertEqual(stops(WEB, start, steps), passed)
        self.assertEqual(rise(WEB, start, steps), climb)
        self.assertEqual(len(legs(WEB, start, steps)), len(steps))
        self.assertEqual(steps, handed)

    def test_no_steps(self):
        for point in range(6):
            self.walk(point, [], [point], 0)

    def test_one_step_forth_or_back(self):
        self.walk(0, [(0, 1)], [0, 1], 5)
        self.walk(1, [(0, -1)], [1, 0], -5)

    def test_steps_forth_and_back(self):
        self.walk(0, [(4, 1), (1, 1), (3, 1)], [0, 1, 2, 3], 6)
        self.walk(3, [(3, -1), (1, -1), (0, -1)], [3, 2, 1, 0], -2)
        self.walk(1, [(0, -1), (2, -1), (3, 1)], [1, 0, 2, 3], -12)

    def test_by_one_tie_again_and_again(self):
        self.walk(4, [(5, 1), (5, -1), (5, 1)], [4, 5, 4, 5], 1000000)

    def test_back_to_where_it_begins(self):
        self.walk(0, [(0, 1), (1, 1), (2, 1)], [0, 1, 2, 0], 9)
        self.walk(0, [(0, 1), (4, -1)], [0, 1, 0], -4)

    def test_the_climb_is_not_brought_within_the_round(self):
        self.walk(0, [(0, 1), (1, 1), (2, 1)] * 2, [0, 1, 2, 0, 1, 2, 0], 18)

    def test_a_long_walk(self):
        long = Web(20000, [(k + 1, k, 2) for k in range(19999)], 0)
        steps = [(k, -1) for k in range(19999)]
        self.assertEqual(stops(long, 0, steps), list(range(20000)))
        self.assertEqual(rise(long, 0, steps), -39998)
        self.assertIs(is_straight(long, 0, steps), True)


class WalksThatThereAreNot(unittest.TestCase):
    def no_walk(self, start, steps):
        with self.subTest(start=start, steps=steps):
            self.assertIsNone(legs(WEB, start, steps))
            self.assertIsNone(stops(WEB, start, steps))
            self.assertIsNone(rise(WEB, start, steps))
            self.assertIs(is_straight(WEB, start, steps), False)

    def test_a_step_from_another_point_than_where_the_one_ahead_comes_to(self):
        self.no_walk(0, [(0, 1), (2, 1)])
        self.no_walk(0, [(0, 1), (0, 1)])
        self.no_walk(0, [(0, 1), (1, -1), (2, 1)])
        self.no_walk(0, [(0, 1), (1, 1), (5, 1)])

    def test_a_first_step_from_another_point_than_the_start(self):
        self.no_walk(1, [(0, 1)])
        self.no_walk(0, [(0, -1)])
        self.no_walk(3, [(0, 1), (1, 1)])

    def test_what_is_no_step_at_each_place(self):
        for value in NO_STEPS:
            self.no_walk(0, [value])
            self.no_walk(0, [value, (0, 1), (1, 1)])
            self.no_walk(0, [(0, 1), value, (1, 1)])
            self.no_walk(0, [(0, 1), (1, 1), value])

    def test_what_is_no_list_of_steps(self):
        for value in (None, True, 0, "", (), ((0, 1),), {}, {(0, 1): 1}, object()):
            self.no_walk(0, value)

    def test_what_is_no_point_to_start_from(self):
        for value in (-1, 6, 10 ** 5000, None, True, False, "0", 0.0, [0], (0,), {}):
            self.no_walk(value, [])
            self.no_walk(value, [(0, 1)])


class StraightWalks(unittest.TestCase):
    def straight(self, start, steps, expected):
        self.assertIsNotNone(stops(WEB, start, steps))
        self.assertIs(is_straight(WEB, start, steps), expected)

    def test_no_steps(self):
        for point in range(6):
            self.straight(point, [], True)

    def test_straight(self):
        self.straight(0, [(0, 1)], True)
        self.straight(5, [(5, -1)], True)
        self.straight(0, [(0, 1), (1, 1), (3, 1)], True)
        self.straight(3, [(3, -1), (2, 1), (4, 1)], True)

    def test_to_a_point_twice(self):
        self.straight(3, [(3, -1), (2, 1), (0, 1), (1, 1)], False)
        self.straight(0, [(0, 1), (1, 1), (1, -1)], False)
        self.straight(0, [(0, 1), (1, 1), (3, 1), (3, -1)], False)

    def test_back_to_where_it_begins(self):
        self.straight(0, [(0, 1), (1, 1), (2, 1)], False)
        self.straight(0, [(0, 1), (0, -1)], False)
        self.straight(0, [(0, 1), (4, -1)], False)

    def test_by_where_it_begins_and_further_on(self):
        self.straight(1, [(0, -1), (0, 1), (1, 1)], False)
        self.straight(2, [(2, 1), (2, -1), (3, 1)], False)


if __name__ == "__main__":
    unittest.main()
