"""Points 2, 4, 5 and 6: ways, ties that can be spared, the fewest ties, and the climb of a walk; and what is refused."""

import unittest

import reckoning
from closering.answers import Apart, Around, Fewest, Held, Way
from closering.errors import BadPoint, BadTie, WebError
from closering.ways import between, climb, fewest, spare
from closering.webs import Web

MOST = 1000000
WEB = Web(4, [(0, 1, 5), (1, 2, -3), (2, 0, 7), (0, 1, 9)], 4)

# Of every kind, and neither a point nor a tie of the web above.
NO_PLACES = (None, "", "0", True, False, [], [0], (), (0,), {}, {0: 0}, set(), 0.0, 1.0, float("nan"), b"0", object(), int,
             WEB, -1, -2, 4, 5, MOST, -MOST, 10 ** 5000, -10 ** 5000)

# Of every kind, and none of them a step of the web above.
NO_STEPS = (None, True, 0, "", "01", [], [0, 1], (), (0,), (0, 1, 1), {0: 1}, (-1, 1), (4, 1), (5, -1), (None, 1),
            (True, 1), (False, 1), ("0", 1), ([0], 1), ((0, 1), 1), (0.0, 1), (0, 0), (0, 2), (0, -2), (0, None),
            (0, True), (0, False), (0, "1"), (0, [1]), (0, 1.0), (0, 10 ** 5000), (10 ** 5000, 1), object(), tuple)

# Of every kind, and none of them a list.
NO_LISTS = (None, True, False, 0, 1, "", "steps", (), ((0, 1),), {}, {(0, 1): 1}, set(), range(0), iter([]), 1.5,
            object(), list, WEB)


class Between(unittest.TestCase):
    def check(self, web, one, other):
        """Tells whether a way was told."""
        made = Web(*web)
        answer = between(made, one, other)
        with self.subTest(web=web, one=one, other=other, fields=vars(answer)):
            parts = reckoning.parts_by(web, range(len(web[1])))
            if parts[one] == parts[other]:
                self.assertIs(type(answer), Way)
                self.assertTrue(reckoning.way_holds(web, one, other, answer.steps))
            else:
                self.assertIs(type(answer), Apart)
                self.assertTrue(reckoning.cut_holds(web, one, other, answer.points))
            self.assertIs(answer.shows(made, one, other), True)
            self.assertEqual((made.points, made.ties(), made.turn), web)
        return type(answer) is Way

    def test_many_small_webs(self):
        told = []
        for web in reckoning.small_webs():
            told += [self.check(web, one, other) for one in range(web[0]) for other in range(web[0])]
        self.assertGreater(told.count(True), 1000)
        self.assertGreater(told.count(False), 1000)

    def test_no_steps_from_a_point_to_itself(self):
        for point in range(4):
            self.assertEqual(between(WEB, point, point).steps, [])
        self.assertEqual(between(Web(1, [], 0), 0, 0).steps, [])

    def test_ties_are_gone_forth_and_back(self):
        web = (4, [(1, 0, 5), (1, 2, 6), (3, 2, 7)], 0)
        self.assertEqual(between(Web(*web), 0, 3).steps, [(0, -1), (1, 1), (2, -1)])
        self.assertEqual(between(Web(*web), 3, 0).steps, [(2, 1), (1, -1), (0, 1)])

    def test_no_ties(self):
        self.assertEqual(between(Web(3, [], 0), 1, 2).points, [1])

    def test_the_second_points_part_is_left_out(self):
        self.assertFalse(self.check((5, [(4, 0, 1), (1, 3, 1), (3, 2, 1)], 0), 4, 2))
        self.assertEqual(between(Web(5, [(4, 0, 1), (1, 3, 1), (3, 2, 1)], 0), 4, 2).points, [0, 4])

    def test_what_is_no_point(self):
        for value in NO_PLACES:
            with self.subTest(value=value):
                self.assertRaises(BadPoint, between, WEB, value, 0)
                self.assertRaises(BadPoint, between, WEB, 0, value)
                self.assertRaises(BadPoint, between, WEB, value, value)

    def test_each_time_a_new_answer(self):
        one, other = between(WEB, 0, 2), between(WEB, 0, 2)
        self.assertIsNot(one, other)
        self.assertIsNot(one.steps, other.steps)
        one, other = between(WEB, 0, 3), between(WEB, 0, 3)
        self.assertIsNot(one, other)
        self.assertIsNot(one.points, other.points)


class Spare(unittest.TestCase):
    def check(self, web, tie):
        """Tells whether a walk around the tie was told."""
        made = Web(*web)
        answer = spare(made, tie)
        with self.subTest(web=web, tie=tie, fields=vars(answer)):
            first, second, number = web[1][tie]
            parts = reckoning.parts_by(web, [place for place in range(len(web[1])) if place != tie])
            if parts[first] == parts[second]:
                self.assertIs(type(answer), Around)
                self.assertTrue(reckoning.around_holds(web, tie, answer.steps))
            else:
                self.assertIs(type(answer), Held)
                self.assertTrue(reckoning.held_holds(web, tie, answer.points))
            self.assertIs(answer.shows(made, tie), True)
            self.assertEqual((made.points, made.ties(), made.turn), web)
        return type(answer) is Around

    def test_many_small_webs(self):
        told = []
        for web in reckoning.small_webs():
            told += [self.check(web, tie) for tie in range(len(web[1]))]
        self.assertGreater(told.count(True), 1000)
        self.assertGreater(told.count(False), 1000)

    def test_one_tie_alone(self):
        self.assertEqual(spare(Web(2, [(0, 1, 5)], 0), 0).points, [0])
        self.assertEqual(spare(Web(2, [(1, 0, 5)], 0), 0).points, [1])

    def test_several_ties_between_two_points(self):
        self.assertEqual(spare(Web(2, [(0, 1, 5), (1, 0, 7)], 0), 0).steps, [(1, -1)])
        self.assertEqual(spare(Web(2, [(0, 1, 5), (1, 0, 7)], 0), 1).steps, [(0, -1)])

    def test_around_the_other_ties_of_a_ring(self):
        self.assertEqual(spare(Web(3, [(0, 1, 5), (1, 2, 6), (2, 0, 7)], 0), 1).steps, [(0, -1), (2, -1)])

    def test_what_is_no_tie(self):
        for value in NO_PLACES:
            with self.subTest(value=value):
                self.assertRaises(BadTie, spare, WEB, value)

    def test_a_web_without_ties_has_none(self):
        for value in (0, -1, 1):
            self.assertRaises(BadTie, spare, Web(3, [], 0), value)

    def test_each_time_a_new_answer(self):
        for web in (WEB, Web(2, [(0, 1, 5)], 0)):
            one, other = spare(web, 0), spare(web, 0)
            self.assertIsNot(one, other)
            self.assertEqual(vars(one), vars(other))
            for field in vars(one):
                self.assertIsNot(getattr(one, field), getattr(other, field))


class TheFewest(unittest.TestCase):
    def check(self, web):
        made = Web(*web)
        answer = fewest(made)
        with self.subTest(web=web, fields=vars(answer)):
            self.assertIs(type(answer), Fewest)
            self.assertTrue(reckoning.fewest_holds(web, answer.kept, answer.parts))
            self.assertTrue(all(type(number) is int for number in answer.kept + answer.parts))
            self.assertIs(answer.shows(made), True)
            self.assertEqual((made.points, made.ties(), made.turn), web)
        return answer

    def test_many_small_webs(self):
        for web in reckoning.small_webs():
            self.check(web)

    def test_without_ties(self):
        answer = self.check((4, [], 12))
        self.assertEqual((answer.kept, answer.parts), ([], [0, 1, 2, 3]))

    def test_the_parts_are_told_in_the_turn_of_the_points(self):
        self.assertEqual(self.check((6, [(5, 4, 0), (3, 1, 0), (4, 2, 0)], 1)).parts, [0, 1, 2, 1, 2, 2])

    def test_all_ties_of_a_tree_are_kept(self):
        self.assertEqual(self.check((5, [(4, 2, 1), (2, 0, 1), (3, 2, 1), (0, 1, 1)], 0)).kept, [0, 1, 2, 3])

    def test_one_of_several_ties_between_two_points(self):
        self.assertEqual(len(self.check((2, [(0, 1, 1), (1, 0, 2), (0, 1, 3)], 0)).kept), 1)

    def test_each_time_a_new_answer(self):
        one, other = fewest(WEB), fewest(WEB)
        self.assertIsNot(one, other)
        self.assertIsNot(one.kept, other.kept)
        self.assertIsNot(one.parts, other.parts)


class Climbs(unittest.TestCase):
    def climbs(self, start, steps, end, number):
        handed = list(steps)
        told = climb(WEB, start, steps)
        self.assertIs(type(told), tuple)
        self.assertEqual(told, (end, number))
        self.assertEqual(steps, handed)

    def test_no_steps(self):
        for point in range(4):
            self.climbs(point, [], point, 0)

    def test_forth_and_back(self):
        self.climbs(0, [(0, 1)], 1, 5)
        self.climbs(1, [(0, -1)], 0, -5)
        self.climbs(0, [(3, 1), (1, 1)], 2, 6)
        self.climbs(1, [(0, -1), (2, -1)], 2, -12)

    def test_back_to_where_it_begins_and_by_a_tie_again(self):
        self.climbs(0, [(0, 1), (1, 1), (2, 1)], 0, 9)
        self.climbs(0, [(0, 1), (0, -1), (0, 1)], 1, 5)
        self.climbs(0, [(3, 1), (0, -1)] * 10, 0, 40)

    def test_the_climb_of_each_way_between_points(self):
        for web in reckoning.mixed_webs(200):
            made = Web(*web)
            for one in range(web[0]):
                for other in range(web[0]):
                    way = between(made, one, other)
                    if type(way) is Way:
                        self.assertEqual(climb(made, one, way.steps), (other, reckoning.gone(web, one, way.steps)[1]))

    def test_all_short_lists_of_steps(self):
        for web in reckoning.mixed_webs(20, 3, 3):
            made = Web(*web)
            steps = [(tie, way) for tie in range(-1, len(web[1]) + 1) for way in (-1, 0, 1)]
            for start in range(web[0]):
                for walk in [[one, other] for one in steps for other in steps]:
                    expected = reckoning.gone(web, start, walk)
                    if expected is None:
                        self.assertRaises(BadTie, climb, made, start, walk)
                    else:
                        self.assertEqual(climb(made, start, walk), (expected[0][-1], expected[1]))

    def test_what_is_no_point_to_start_from(self):
        for value in NO_PLACES:
            with self.subTest(value=value):
                self.assertRaises(BadPoint, climb, WEB, value, [])
                self.assertRaises(BadPoint, climb, WEB, value, [(0, 1)])

    def test_what_is_no_step_at_each_place(self):
        for value in NO_STEPS:
            for steps in ([value], [value, (0, 1)], [(0, 1), value, (1, 1)], [(0, 1), (1, 1), value]):
                with self.subTest(steps=steps):
                    self.assertRaises(BadTie, climb, WEB, 0, steps)

    def test_what_is_no_list(self):
        for value in NO_LISTS:
            with self.subTest(value=value):
                self.assertRaises(BadTie, climb, WEB, 0, value)

    def test_steps_that_do_not_go_on_from_where_the_one_ahead_comes_to(self):
        for start, steps in ((1, [(0, 1)]), (0, [(0, -1)]), (3, [(0, 1)]), (0, [(0, 1), (0, 1)]), (0, [(0, 1), (2, 1)]),
                             (0, [(0, 1), (1, 1), (1, 1)]), (0, [(0, 1), (1, -1)])):
            with self.subTest(start=start, steps=steps):
                self.assertRaises(BadTie, climb, WEB, start, steps)

    def test_of_two_refusals_the_one_told_first(self):
        for start in NO_PLACES:
            for steps in (None, (), [None], [(4, 1)], [(0, 0)], [(0, 1), (0, 1)]):
                self.assertRaises(BadPoint, climb, WEB, start, steps)

    def test_refused_steps_stay(self):
        steps = [(0, 1), [1, 1], (9, 9)]
        self.assertRaises(BadTie, climb, WEB, 0, steps)
        self.assertEqual(steps, [(0, 1), [1, 1], (9, 9)])


class TheRefusals(unittest.TestCase):
    def test_each_is_of_its_own_class_and_a_web_error_and_a_value_error(self):
        for kind, ask in ((BadPoint, lambda: between(WEB, 0, 9)), (BadTie, lambda: spare(WEB, 9)),
                          (BadPoint, lambda: climb(WEB, 9, None)), (BadTie, lambda: climb(WEB, 0, None))):
            with self.assertRaises(kind) as caught:
                ask()
            self.assertIs(type(caught.exception), kind)
            self.assertIsInstance(caught.exception, WebError)
            self.assertIsInstance(caught.exception, ValueError)


if __name__ == "__main__":
    unittest.main()
