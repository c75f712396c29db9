"""Points 3 to 7: whether an answer shows what it says, for answers made by hand, against the tests' own reckoning."""

import itertools
import unittest

import reckoning
from closering import answers
from closering.answers import Answer, Apart, Around, Camps, Fewest, Heights, Held, Quarrel, Ring, Way
from closering.heights import camps, levels
from closering.ways import between, fewest, spare
from closering.webs import Web, about

HUGE = 10 ** 5000

# A web with two ties between two points, a ring of three, a tie that holds two parts, and a part by itself.
RINGED = (6, [(0, 1, 5), (1, 2, -3), (2, 0, 7), (0, 1, 9), (2, 3, 0), (4, 5, 12)], 12)

# Two rings with one point of both.
EIGHT = (5, [(0, 1, 1), (1, 2, 1), (2, 0, 1), (0, 3, 1), (3, 4, 1), (4, 0, 1)], 0)

# Some ties are friends' and some are foes', with a quarrel by one tie and by two.
MIXED = (4, [(0, 1, 0), (1, 2, 12), (2, 0, 5), (0, 1, 7), (3, 0, 1)], 12)

STRANGE_STEPS = ((-1, 1), (-1, -1), (0, 0), (0, 2), (0, -2), (0, HUGE), (HUGE, 1), (-HUGE, -1), (1, -HUGE))


def pairs_of(web):
    """All steps of the web, and of the ties just below and just beyond."""
    return [(tie, way) for tie in range(-1, len(web[1]) + 1) for way in (1, -1)]


def short_walks(web, most):
    """All straight and other walks of up to so many steps, all lists of up to two steps, and some with strange ones."""
    for count in (0, 1, 2):
        for steps in itertools.product(pairs_of(web) + list(STRANGE_STEPS), repeat=count):
            yield list(steps)
    for start in range(web[0]):
        yield from walks_from(web, start, [], most)


def walks_from(web, here, steps, most):
    if len(steps) == most:
        return
    for tie, (first, second, number) in enumerate(web[1]):
        for way, ahead, there in ((1, first, second), (-1, second, first)):
            if ahead == here:
                longer = steps + [(tie, way)]
                yield longer
                yield longer[::-1]
                yield longer[:-1] + [(tie, -way)]
                yield longer + [STRANGE_STEPS[len(longer)]]
                yield from walks_from(web, there, longer, most)


def number_lists(lowest, highest, most):
    for count in range(most + 1):
        for numbers in itertools.product(range(lowest, highest + 1), repeat=count):
            yield list(numbers)


class TheClasses(unittest.TestCase):
    def test_each_is_straight_under_answer(self):
        for name in ("Heights", "Ring", "Fewest", "Camps", "Quarrel", "Way", "Apart", "Around", "Held"):
            self.assertEqual(getattr(answers, name).__bases__, (Answer,))

    def test_the_fields_by_their_names(self):
        self.assertEqual(vars(Heights(heights=[1])), {"heights": [1]})
        self.assertEqual(vars(Ring(steps=[(0, 1)])), {"steps": [(0, 1)]})
        self.assertEqual(vars(Fewest(kept=[0], parts=[1])), {"kept": [0], "parts": [1]})
        self.assertEqual(vars(Camps(camps=[1])), {"camps": [1]})
        self.assertEqual(vars(Quarrel(tie=3, steps=[(0, 1)])), {"tie": 3, "steps": [(0, 1)]})
        self.assertEqual(vars(Way(steps=[(0, 1)])), {"steps": [(0, 1)]})
        self.assertEqual(vars(Apart(points=[1])), {"points": [1]})
        self.assertEqual(vars(Around(steps=[(0, 1)])), {"steps": [(0, 1)]})
        self.assertEqual(vars(Held(points=[1])), {"points": [1]})


class MadeByHand(unittest.TestCase):
    def same(self, shown, expected, *told):
        """Holds the answer's word against the reckoning, and tells what was shown."""
        if shown is not expected:
            self.fail(f"shown {shown!r}, reckoned {expected!r}: {told}")
        return shown

    def both_came(self, shown):
        self.assertIn(True, shown)
        self.assertIn(False, shown)

    def small(self):
        return list(reckoning.mixed_webs(30, 4, 4)) + list(reckoning.friendly_webs(15, 4, 4))

    def test_heights(self):
        shown = []
        for web in list(reckoning.mixed_webs(120, 3, 3)):
            made = Web(*web)
            for heights in number_lists(-1, 2, 4):
                shown.append(self.same(Heights(heights).shows(made), reckoning.heights_hold(web, heights), web, heights))
        self.both_came(shown)

    def test_heights_of_any_size(self):
        for turn in reckoning.ROUNDS:
            web = (3, [(0, 1, 5), (1, 2, -3)], turn)
            for base in (0, HUGE, -HUGE):
                for off in (0, 1, turn, 5 * turn, -turn, HUGE * turn, 12):
                    heights = [base, base + 5 + off, base + 2]
                    self.same(Heights(heights).shows(Web(*web)), reckoning.heights_hold(web, heights), turn, off)

    def test_rings(self):
        shown = []
        for web in self.small() + [RINGED, EIGHT]:
            made = Web(*web)
            for steps in short_walks(web, 4):
                shown.append(self.same(Ring(steps).shows(made), reckoning.ring_holds(web, steps), web, steps))
        self.both_came(shown)

    def test_ways(self):
        shown = []
        for web in self.small():
            made = Web(*web)
            for steps in short_walks(web, 3):
                for one, other in itertools.product(range(web[0]), repeat=2):
                    shown.append(self.same(Way(steps).shows(made, one, other),
                                           reckoning.way_holds(web, one, other, steps), web, one, other, steps))
        self.both_came(shown)

    def test_aparts(self):
        shown = []
        for web in self.small():
            made = Web(*web)
            for points in number_lists(-1, web[0], web[0]):
                for one, other in itertools.product(range(web[0]), repeat=2):
                    shown.append(self.same(Apart(points).shows(made, one, other),
                                           reckoning.cut_holds(web, one, other, points), web, one, other, points))
        self.both_came(shown)

    def test_arounds(self):
        shown = []
        for web in self.small() + [RINGED]:
            made = Web(*web)
            for steps in short_walks(web, 3):
                for tie in range(len(web[1])):
                    shown.append(self.same(Around(steps).shows(made, tie), reckoning.around_holds(web, tie, steps),
                                           web, tie, steps))
        self.both_came(shown)

    def test_helds(self):
        shown = []
        for web in self.small():
            made = Web(*web)
            for points in number_lists(-1, web[0], web[0]):
                for tie in range(len(web[1])):
                    shown.append(self.same(Held(points).shows(made, tie), reckoning.held_holds(web, tie, points),
                                           web, tie, points))
        self.both_came(shown)

    def test_fewests(self):
        shown = []
        for web in list(reckoning.mixed_webs(40, 3, 3)) + [(3, [(0, 1, 0), (2, 1, 0), (0, 2, 0)], 0)]:
            made = Web(*web)
            for kept in number_lists(-1, len(web[1]), 3):
                for parts in number_lists(-1, 2, web[0]):
                    shown.append(self.same(Fewest(kept, parts).shows(made), reckoning.fewest_holds(web, kept, parts),
                                           web, kept, parts))
        self.both_came(shown)

    def test_camps(self):
        shown = []
        for web in list(reckoning.mixed_webs(60, 3, 3)) + list(reckoning.friendly_webs(60, 3, 3)):
            made = Web(*web)
            for numbers in number_lists(-1, 2, 4):
                shown.append(self.same(Camps(numbers).shows(made), reckoning.camps_hold(web, numbers), web, numbers))
        self.both_came(shown)

    def test_quarrels(self):
        shown = []
        for web in self.small() + [MIXED]:
            made = Web(*web)
            for steps in short_walks(web, 3):
                for tie in list(range(-2, len(web[1]) + 2)) + [HUGE, -HUGE]:
                    shown.append(self.same(Quarrel(tie, steps).shows(made), reckoning.quarrel_holds(web, tie, steps),
                                           web, tie, steps))
        self.both_came(shown)

    def test_lists_of_another_sort_and_numbers_beyond(self):
        made = Web(*RINGED)
        for values in ([], [0], [(0, 1)], [0, (0, 1)], [(0, 1), 0], [(0, 1), (3, -1), 5], [HUGE], [-HUGE], [(HUGE, HUGE)],
                       [0, 1, 2, 3, 4, (5, 6)], [True], [0, True], [(0, True)], [(True, 1)], [None], ["0"], [[0, 1]], [()],
                       [(0,)], [(0, 1, 2)], [1.0], [0, 0, 0, 0, 0, 0.0]):
            for answer in (Heights(values), Ring(values), Fewest(values, values), Fewest([], values), Camps(values),
                           Quarrel(0, values), Quarrel(1, values)):
                self.assertIs(answer.shows(made), False, (answer, values))
            self.assertIs(Apart(values).shows(made, 2, 4), False, values)
            self.assertIs(Way(values).shows(made, 2, 3), False, values)
            self.assertIs(Around(values).shows(made, 4), False, values)
            self.assertIs(Held(values).shows(made, 4), False, values)

    def test_true_and_false_are_no_numbers(self):
        web = Web(2, [(0, 1, 1)], 2)
        self.assertIs(Heights([0, 1]).shows(web), True)
        self.assertIs(Heights([0, True]).shows(web), False)
        self.assertIs(Heights([False, 1]).shows(web), False)
        self.assertIs(Camps([0, 1]).shows(web), True)
        self.assertIs(Camps([0, True]).shows(web), False)
        self.assertIs(Way([(0, 1)]).shows(web, 0, 1), True)
        self.assertIs(Way([(0, True)]).shows(web, 0, 1), False)
        self.assertIs(Way([(False, 1)]).shows(web, 0, 1), False)
        self.assertIs(Held([0]).shows(web, 0), True)
        self.assertIs(Held([False]).shows(web, 0), False)
        self.assertIs(Apart([0]).shows(Web(2, [], 0), 0, 1), True)
        self.assertIs(Apart([False]).shows(Web(2, [], 0), 0, 1), False)
        self.assertIs(Fewest([0], [0, 0]).shows(web), True)
        self.assertIs(Fewest([False], [0, 0]).shows(web), False)
        self.assertIs(Fewest([0], [0, False]).shows(web), False)
        self.assertIs(Fewest([], [0, True]).shows(Web(2, [], 0)), False)
        foes = Web(2, [(0, 1, 1), (0, 1, 0)], 2)
        self.assertIs(Quarrel(0, [(1, 1)]).shows(foes), True)
        self.assertIs(Quarrel(False, [(1, 1)]).shows(foes), False)


class SomeByHand(unittest.TestCase):
    """The edges, told one by one, so that a slip in the reckoning wouldn't hide one in the program."""

    def test_rings(self):
        for steps, holds in (([(0, 1), (1, 1), (2, 1)], True), ([(1, 1), (2, 1), (0, 1)], True),
                             ([(2, -1), (1, -1), (0, -1)], True), ([(0, 1), (3, -1)], True), ([(3, -1), (0, 1)], True),
                             ([(3, 1), (1, 1), (2, 1)], True), ([], False), ([(0, 1)], False), ([(0, 1), (0, -1)], False),
                             ([(0, 1), (1, 1)], False), ([(0, 1), (2, 1), (1, 1)], False), ([(0, 1), (3, 1)], False),
                             ([(4, 1), (4, -1)], False), ([(0, 1), (1, 1), (2, 1), (3, 1), (0, -1)], False),
                             ([(0, 1), (1, 1), (2, 1), (0, 1), (1, 1), (2, 1)], False),
                             ([(0, 1), (3, -1), (0, 1), (3, -1)], False)):
            self.assertIs(Ring(steps).shows(Web(*RINGED)), holds, steps)

    def test_a_ring_whose_climb_is_alike_to_0(self):
        ties = [(0, 1, 5), (1, 2, 6), (2, 0, 1)]
        steps = [(0, 1), (1, 1), (2, 1)]
        for turn, holds in ((0, True), (1, False), (2, False), (5, True), (12, False), (24, True), (1000000, True)):
            self.assertIs(Ring(steps).shows(Web(3, ties, turn)), holds, turn)

    def test_a_ring_that_comes_to_a_point_twice(self):
        web = Web(*EIGHT)
        self.assertIs(Ring([(0, 1), (1, 1), (2, 1)]).shows(web), True)
        # Where it begins, and another point.
        self.assertIs(Ring([(0, 1), (1, 1), (2, 1), (3, 1), (4, 1), (5, 1)]).shows(web), False)
        self.assertIs(Ring([(1, 1), (2, 1), (3, 1), (4, 1), (5, 1), (0, 1)]).shows(web), False)

    def test_ways(self):
        web = Web(*RINGED)
        for one, other, steps, holds in ((0, 0, [], True), (0, 1, [], False), (0, 1, [(0, 1)], True),
                                         (1, 0, [(0, -1)], True), (1, 0, [(0, 1)], False), (0, 1, [(0, -1)], False),
                                         (0, 3, [(0, 1), (1, 1), (4, 1)], True), (0, 3, [(2, -1), (4, 1)], True),
                                         (0, 0, [(0, 1), (1, 1), (2, 1)], False), (0, 0, [(0, 1), (0, -1)], False),
                                         (0, 2, [(0, 1), (3, -1), (2, -1)], False), (4, 5, [(5, 1)], True),
                                         (0, 3, [(2, -1), (4, 1), (4, -1), (4, 1)], False), (4, 4, [], True)):
            self.assertIs(Way(steps).shows(web, one, other), holds, (one, other, steps))

    def test_aparts(self):
        web = Web(*RINGED)
        for one, other, points, holds in ((0, 4, [0, 1, 2, 3], True), (4, 0, [4, 5], True), (4, 0, [5, 4], False),
                                          (0, 4, [4, 5], False), (4, 5, [4], False), (4, 0, [4, 4, 5], False),
                                          (4, 0, [4], False), (4, 0, [], False), (4, 0, [-1, 4, 5], False),
                                          (4, 0, [4, 5, 6], False), (4, 0, [0, 1, 2, 3, 4, 5], False),
                                          (0, 0, [0, 1, 2, 3], False), (3, 5, [0, 1, 2, 3], True)):
            self.assertIs(Apart(points).shows(web, one, other), holds, (one, other, points))

    def test_arounds(self):
        web = Web(*RINGED)
        for tie, steps, holds in ((0, [(3, 1)], True), (0, [(0, 1)], False), (0, [(2, -1), (1, -1)], True),
                                  (0, [(3, -1)], False), (0, [], False), (4, [(4, 1)], False), (2, [(0, 1), (1, 1)], False),
                                  (2, [(1, -1), (0, -1)], True), (2, [(1, -1), (3, -1)], True),
                                  (0, [(3, 1), (1, 1), (1, -1)], False), (3, [(0, 1)], True)):
            self.assertIs(Around(steps).shows(web, tie), holds, (tie, steps))

    def test_helds(self):
        web = Web(*RINGED)
        for tie, points, holds in ((4, [0, 1, 2], True), (4, [0, 1, 2, 4, 5], True), (4, [0, 1, 2, 4], False),
                                   (4, [3], False), (4, [0, 2, 1], False), (4, [0, 1, 2, 3], False), (4, [], False),
                                   (5, [4], True), (5, [5], False), (5, [0, 1, 2, 3, 4], True), (0, [0], False),
                                   (4, [2], False), (4, [-1, 0, 1, 2], False), (4, [0, 1, 2, 6], False)):
            self.assertIs(Held(points).shows(web, tie), holds, (tie, points))

    def test_fewests(self):
        web = Web(*RINGED)
        parts = [0, 0, 0, 0, 1, 1]
        for kept, holds in (([0, 1, 4, 5], True), ([1, 2, 4, 5], True), ([2, 3, 4, 5], True), ([0, 3, 4, 5], False),
                            ([0, 1, 2, 5], False), ([0, 1, 4], False), ([0, 1, 2, 4, 5], False), ([1, 0, 4, 5], False),
                            ([0, 1, 4, 4], False), ([0, 1, 4, 6], False), ([-1, 0, 1, 4, 5], False), ([], False)):
            self.assertIs(Fewest(kept, parts).shows(web), holds, kept)
        for parts in ([1, 1, 1, 1, 0, 0], [0, 0, 0, 0, 2, 2], [1, 1, 1, 1, 2, 2], [0, 0, 0, 0, 0, 0], [0, 0, 0, 1, 2, 2],
                      [0, 0, 0, 0, 1], [0, 0, 0, 0, 1, 1, 1], [0, 0, 0, 0, -1, -1], [], [0, 0, 0, 0, 12, 12]):
            self.assertIs(Fewest([0, 1, 4, 5], parts).shows(web), False, parts)

    def test_the_numbers_of_the_parts_are_not_told_by_the_round(self):
        self.assertIs(Fewest([], [0, 1]).shows(Web(2, [], 1)), True)
        self.assertIs(Fewest([], [0, 0]).shows(Web(2, [], 1)), False)

    def test_camps(self):
        web = Web(3, [(0, 1, 12), (1, 2, 5)], 12)
        for numbers, holds in (([0, 0, 1], True), ([7, 7, -7], True), ([HUGE, HUGE, 0], True), ([0, 0, 12], True),
                               ([0, 12, 1], False), ([0, 1, 2], False), ([0, 0, 0], False), ([0, 0], False),
                               ([0, 0, 1, 1], False), ([], False)):
            self.assertIs(Camps(numbers).shows(web), holds, numbers[:1])

    def test_quarrels(self):
        web = Web(*MIXED)
        for tie, steps, holds in ((3, [(0, 1)], True), (2, [(1, -1), (0, -1)], True), (3, [(3, 1)], False),
                                  (0, [(0, 1)], False), (3, [(0, -1)], False), (3, [], False), (4, [(4, 1)], False),
                                  (-1, [(0, 1)], False), (-2, [(0, 1)], False), (5, [(0, 1)], False),
                                  (2, [(1, -1), (3, -1)], False), (3, [(0, 1), (1, 1), (1, -1)], False),
                                  (2, [(0, -1), (1, -1)], False)):
            self.assertIs(Quarrel(tie, steps).shows(web), holds, (tie, steps))

    def test_of_points_and_ties_that_there_are_not_nothing_is_shown(self):
        web = Web(2, [(0, 1, 1)], 0)
        for place in (-1, 2, HUGE):
            self.assertIs(Way([]).shows(web, place, place), False)
            self.assertIs(Apart([0, 1]).shows(web, 0, place), False)
            self.assertIs(Apart([0]).shows(web, place, 1), False)
            self.assertIs(Around([(0, 1)]).shows(web, place), False)
            self.assertIs(Held([0]).shows(web, place), False)
        self.assertIs(Way([(0, 1)]).shows(web, 0, True), False)
        self.assertIs(Way([(0, 1)]).shows(web, False, 1), False)
        self.assertIs(Apart([0]).shows(Web(2, [], 0), False, 1), False)
        self.assertIs(Apart([0]).shows(Web(2, [], 0), 0, True), False)
        self.assertIs(Held([0]).shows(web, False), False)


class AsTheFieldsStand(unittest.TestCase):
    def test_heights(self):
        web = Web(2, [(0, 1, 5)], 0)
        answer = levels(web)
        answer.heights[0] += 1
        self.assertIs(answer.shows(web), False)
        answer.heights[1] += 1
        self.assertIs(answer.shows(web), True)
        answer.heights.append(0)
        self.assertIs(answer.shows(web), False)
        answer.heights = [10, 15]
        self.assertIs(answer.shows(web), True)
        self.assertIs(answer.shows(about(web)), True)
        self.assertIs(answer.shows(Web(2, [(1, 0, 5)], 0)), False)
        self.assertIs(answer.shows(Web(2, [(1, 0, 5)], 10)), True)
        self.assertIs(answer.shows(Web(3, [(0, 1, 5)], 0)), False)
        self.assertIs(answer.shows(Web(2, [], 0)), True)

    def test_a_ring(self):
        web = Web(2, [(0, 1, 5), (0, 1, 6)], 0)
        answer = levels(web)
        self.assertIs(answer.shows(about(web)), True)
        answer.steps[0] = answer.steps[1]
        self.assertIs(answer.shows(web), False)
        answer.steps = [(0, 1), (1, -1)]
        self.assertIs(answer.shows(web), True)
        self.assertIs(answer.shows(Web(2, web.ties()[:1], 0)), False)
        self.assertIs(answer.shows(Web(2, web.ties(), 1)), False)
        answer.steps.pop()
        self.assertIs(answer.shows(web), False)

    def test_a_way(self):
        web = Web(3, [(0, 1, 5), (1, 2, 6)], 0)
        answer = between(web, 0, 2)
        self.assertIs(answer.shows(about(web), 0, 2), False)
        self.assertIs(answer.shows(Web(3, web.ties()[:1], 0), 0, 2), False)
        last = answer.steps.pop()
        self.assertIs(answer.shows(web, 0, 2), False)
        self.assertIs(answer.shows(web, 0, 1), True)
        answer.steps.append(last)
        self.assertIs(answer.shows(web, 0, 2), True)

    def test_points_apart(self):
        web = Web(3, [(0, 1, 5)], 0)
        answer = between(web, 0, 2)
        self.assertIs(answer.shows(about(web), 0, 2), True)
        self.assertIs(answer.shows(Web(3, [(0, 1, 5), (2, 1, 0)], 0), 0, 2), False)
        answer.points.pop()
        self.assertIs(answer.shows(web, 0, 2), False)
        self.assertIs(answer.shows(Web(3, [], 0), 0, 2), True)
        answer.points = [0, 1]
        self.assertIs(answer.shows(web, 0, 2), True)

    def test_around_a_tie(self):
        web = Web(2, [(0, 1, 5), (0, 1, 6)], 0)
        answer = spare(web, 0)
        self.assertIs(answer.shows(web, 1), False)
        self.assertIs(answer.shows(Web(2, web.ties()[:1], 0), 0), False)
        answer.steps[0] = (0, 1)
        self.assertIs(answer.shows(web, 0), False)
        self.assertIs(answer.shows(web, 1), True)
        self.assertIs(answer.shows(about(web), 1), True)

    def test_a_tie_that_holds(self):
        web = Web(3, [(0, 1, 5), (1, 2, 6)], 0)
        answer = spare(web, 0)
        self.assertIs(answer.shows(about(web), 0), False)
        self.assertIs(answer.shows(Web(3, [(0, 1, 5), (1, 0, 6)], 0), 0), False)
        answer.points = [0, 1]
        self.assertIs(answer.shows(web, 0), False)
        self.assertIs(answer.shows(web, 1), True)

    def test_the_fewest(self):
        web = Web(3, [(0, 1, 5), (1, 2, 6)], 0)
        answer = fewest(web)
        self.assertIs(answer.shows(about(web)), True)
        self.assertIs(answer.shows(Web(3, web.ties()[:1], 0)), False)
        answer.kept.pop()
        self.assertIs(answer.shows(web), False)
        answer.parts = [0, 0, 1]
        self.assertIs(answer.shows(web), False)
        self.assertIs(answer.shows(Web(3, web.ties()[:1], 0)), True)

    def test_camps(self):
        web = Web(2, [(0, 1, 5)], 0)
        answer = camps(web)
        self.assertIs(answer.shows(about(web)), True)
        self.assertIs(answer.shows(Web(2, [(0, 1, 5)], 5)), False)
        answer.camps[1] = answer.camps[0]
        self.assertIs(answer.shows(web), False)
        self.assertIs(answer.shows(Web(2, [(0, 1, 5)], 5)), True)

    def test_a_quarrel(self):
        web = Web(2, [(0, 1, 5), (0, 1, 0)], 0)
        answer = camps(web)
        self.assertIs(answer.shows(about(web)), True)
        self.assertIs(answer.shows(Web(2, web.ties()[:1], 0)), False)
        self.assertIs(answer.shows(Web(2, web.ties(), 5)), False)
        answer.tie = 1
        self.assertIs(answer.shows(web), False)
        answer.tie = 0
        answer.steps[0] = (0, 1)
        self.assertIs(answer.shows(web), False)
        answer.steps[0] = (1, 1)
        self.assertIs(answer.shows(web), True)

    def test_what_is_no_list_in_a_field(self):
        web = Web(2, [(0, 1, 5)], 0)
        for value in (None, 0, HUGE, True, "", "01", (), (0, 5), {}):
            for answer, field, asked in ((Heights([]), "heights", ()), (Ring([]), "steps", ()), (Camps([]), "camps", ()),
                                         (Fewest([0], [0, 0]), "kept", ()), (Fewest([0], [0, 0]), "parts", ()),
                                         (Quarrel(0, []), "steps", ()), (Way([]), "steps", (0, 0)),
                                         (Apart([]), "points", (0, 1)), (Around([]), "steps", (0,)),
                                         (Held([]), "points", (0,))):
                setattr(answer, field, value)
                self.assertIs(answer.shows(web, *asked), False, (answer, value))


class WhatIsKept(unittest.TestCase):
    def test_the_lists_are_copied(self):
        for kind, lists in ((Heights, [[0, 5]]), (Ring, [[(0, 1), (1, -1)]]), (Fewest, [[0], [0, 0]]), (Camps, [[0, 1]]),
                            (Way, [[(0, 1)]]), (Apart, [[0]]), (Around, [[(0, 1)]]), (Held, [[0]])):
            answer = kind(*lists)
            before = [list(values) for values in vars(answer).values()]
            for values in lists:
                values.append(7)
                values[0] = None
            self.assertEqual(list(vars(answer).values()), before, kind)
        steps = [(0, 1)]
        answer = Quarrel(1, steps)
        steps.clear()
        self.assertEqual((answer.tie, answer.steps), (1, [(0, 1)]))

    def test_one_list_for_two_fields_or_two_answers(self):
        numbers = [0, 1]
        both = Fewest(numbers, numbers)
        other = Heights(numbers)
        both.kept.append(2)
        other.heights.append(3)
        self.assertEqual((numbers, both.parts), ([0, 1], [0, 1]))

    def test_asking_changes_nothing(self):
        steps = [(0, 1), (1, -1)]
        web = Web(2, [(0, 1, 5), (0, 1, 6)], 0)
        for answer, asked in ((Ring(steps), ()), (Quarrel(0, steps), ()), (Way(steps), (0, 0)), (Around(steps), (0,)),
                              (Heights([3, 1]), ()), (Fewest([1, 0], [1, 0]), ()), (Camps([3, 1]), ()),
                              (Apart([1, 0]), (0, 1)), (Held([1, 0]), (0,))):
            before = {name: list(value) if type(value) is list else value for name, value in vars(answer).items()}
            answer.shows(web, *asked)
            self.assertEqual(vars(answer), before)
        self.assertEqual((web.points, web.ties(), web.turn), (2, [(0, 1, 5), (0, 1, 6)], 0))

    def test_a_field_of_a_told_answer_may_be_changed(self):
        for web in reckoning.mixed_webs(60, 4, 5):
            made = Web(*web)
            asks = [lambda: levels(made), lambda: camps(made), lambda: fewest(made)]
            asks += [lambda one=one: between(made, 0, one) for one in range(web[0])]
            asks += [lambda tie=tie: spare(made, tie) for tie in range(len(web[1]))]
            for ask in asks:
                kept, spoilt = ask(), ask()
                before = {name: list(value) if type(value) is list else value for name, value in vars(kept).items()}
                for value in vars(spoilt).values():
                    if type(value) is list:
                        value.insert(0, None)
                self.assertEqual(vars(kept), before)
                self.assertEqual(vars(ask()), before)
                self.assertEqual((made.points, made.ties(), made.turn), web)


if __name__ == "__main__":
    unittest.main()
