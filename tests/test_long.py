"""Webs with thousands of points and ties in one long row: every function answers, however long a walk gets."""

import unittest

from closering.answers import Apart, Around, Camps, Fewest, Heights, Held, Quarrel, Ring, Way
from closering.heights import camps, levels
from closering.texts import read, written
from closering.ways import between, climb, fewest, spare
from closering.webs import Web, about, together

LONG = 20000

# Forth and back by turns, so that no walk along the row has one way alone.
ROW = [(k, k + 1, 3) if k % 2 else (k + 1, k, -3) for k in range(LONG - 1)]
ALONG = [(k, 1 if k % 2 else -1) for k in range(LONG - 1)]


class LongWebs(unittest.TestCase):
    def test_heights(self):
        web = Web(LONG, ROW, 0)
        answer = levels(web)
        self.assertIs(type(answer), Heights)
        self.assertEqual([height - answer.heights[0] for height in answer.heights], [3 * k for k in range(LONG)])
        self.assertIs(answer.shows(web), True)

    def test_a_ring_by_all_points(self):
        web = Web(LONG, ROW + [(LONG - 1, 0, 0)], 0)
        answer = levels(web)
        self.assertIs(type(answer), Ring)
        self.assertEqual(sorted(tie for tie, way in answer.steps), list(range(LONG)))
        self.assertIs(answer.shows(web), True)

    def test_a_ring_that_closes_by_the_round(self):
        web = Web(LONG, ROW + [(LONG - 1, 0, 0)], 3)
        answer = levels(web)
        self.assertIs(type(answer), Heights)
        self.assertIs(answer.shows(web), True)

    def test_a_way_and_points_apart(self):
        web = Web(LONG + 1, ROW, 0)
        answer = between(web, 0, LONG - 1)
        self.assertIs(type(answer), Way)
        self.assertEqual(answer.steps, ALONG)
        self.assertIs(answer.shows(web, 0, LONG - 1), True)
        answer = between(web, LONG - 1, LONG)
        self.assertIs(type(answer), Apart)
        self.assertEqual(answer.points, list(range(LONG)))
        self.assertIs(answer.shows(web, LONG - 1, LONG), True)

    def test_around_a_tie_and_held_by_one(self):
        web = Web(LONG, ROW + [(0, LONG - 1, 0)], 0)
        answer = spare(web, LONG - 1)
        self.assertIs(type(answer), Around)
        self.assertEqual(answer.steps, ALONG)
        self.assertIs(answer.shows(web, LONG - 1), True)
        web = Web(LONG, ROW, 0)
        answer = spare(web, 9999)
        self.assertIs(type(answer), Held)
        self.assertEqual(answer.points, list(range(10000)))
        self.assertIs(answer.shows(web, 9999), True)

    def test_the_fewest(self):
        for ties, kept in ((ROW, list(range(LONG - 1))), (ROW[:9999] + ROW[10000:], list(range(LONG - 2)))):
            web = Web(LONG, ties, 0)
            answer = fewest(web)
            self.assertIs(type(answer), Fewest)
            self.assertEqual(answer.kept, kept)
            self.assertEqual(answer.parts, [0] * LONG if ties == ROW else [0] * 10000 + [1] * (LONG - 10000))
            self.assertIs(answer.shows(web), True)

    def test_camps_and_a_quarrel(self):
        web = Web(LONG, ROW, 0)
        self.assertIs(type(camps(web)), Camps)
        self.assertIs(camps(web).shows(web), True)
        web = Web(LONG, ROW + [(0, LONG - 1, 1)], 3)
        answer = camps(web)
        self.assertIs(type(answer), Quarrel)
        self.assertEqual((answer.tie, answer.steps), (LONG - 1, ALONG))
        self.assertIs(answer.shows(web), True)

    def test_a_climb(self):
        self.assertEqual(climb(Web(LONG, ROW, 7), 0, ALONG), (LONG - 1, 3 * (LONG - 1)))

    def test_many_ties_at_one_point_and_many_between_two(self):
        web = Web(LONG, [(0, k, k) for k in range(1, LONG)], 0)
        self.assertIs(levels(web).shows(web), True)
        self.assertIs(fewest(web).shows(web), True)
        web = Web(2, [(0, 1, 5)] * LONG + [(1, 0, 5)], 0)
        self.assertIs(type(levels(web)), Ring)
        self.assertIs(levels(web).shows(web), True)
        self.assertEqual(len(fewest(web).kept), 1)

    def test_many_points_without_ties(self):
        web = Web(LONG, [], 0)
        self.assertEqual(fewest(web).parts, list(range(LONG)))
        self.assertIs(fewest(web).shows(web), True)
        self.assertIs(levels(web).shows(web), True)

    def test_written_and_read_and_put_together(self):
        web = together(Web(LONG, ROW, 5), about(Web(LONG, ROW, 5)))
        self.assertEqual(len(web.ties()), 2 * (LONG - 1))
        made = read(written(web))
        self.assertEqual((made.points, made.ties(), made.turn), (web.points, web.ties(), web.turn))


if __name__ == "__main__":
    unittest.main()
