"""The answers that are told of webs; each one can be asked whether it holds of a web."""

from closering.walks import every_tie, is_place, is_step, leads, leg, legs, part_numbers, reach_all
from closering.webs import alike, is_friend, is_number, is_point, is_within


# Fields may have been changed since the answer was made, so nothing is taken for granted of them.
def are_numbers(values, count):
    return isinstance(values, list) and len(values) == count and all([is_number(value) for value in values])


def are_rising(values, count):
    if not isinstance(values, list) or not all([is_within(value, 0, count - 1) for value in values]):
        return False
    return all([one < other for one, other in zip(values, values[1:])])


def are_different(values):
    return len(set(values)) == len(values)


def divides(points, ties, one, other):
    among = dict([(point, True) for point in points])
    if one not in among or other in among:
        return False
    return all([(tie[0] in among) == (tie[1] in among) for tie in ties])


class Answer:
    pass


class Heights(Answer):
    def __init__(self, heights):
        self.heights = list(heights)

    def shows(self, web):
        if not are_numbers(self.heights, web.points):
            return False
        found = self.heights
        return all([alike(found[tie[1]] - found[tie[0]], tie[2], web.turn) for tie in web.ties()])


class Ring(Answer):
    def __init__(self, steps):
        self.steps = list(steps)

    def shows(self, web):
        if not isinstance(self.steps, list) or len(self.steps) < 2 or not is_step(web.ties(), self.steps[0]):
            return False
        start = leg(web.ties(), self.steps[0])[0]
        gone = legs(web, start, self.steps)
        if gone is None or gone[-1][1] != start:
            return False
        # Where it begins is come to by the last step, so no step ahead of it may come there either.
        if not are_different([made[1] for made in gone]) or not are_different([step[0] for step in self.steps]):
            return False
        return not alike(sum([made[2] for made in gone]), 0, web.turn)


class Fewest(Answer):
    def __init__(self, kept, parts):
        self.kept = list(kept)
        self.parts = list(parts)

    def shows(self, web):
        if not are_rising(self.kept, len(web.ties())) or not are_numbers(self.parts, web.points):
            return False
        if self.parts != part_numbers(web, reach_all(web, every_tie(web))):
            return False
        if self.parts != part_numbers(web, reach_all(web, self.kept)):
            return False
        return len(self.kept) == web.points - len(set(self.parts))


class Camps(Answer):
    def __init__(self, camps):
        self.camps = list(camps)

    def shows(self, web):
        if not are_numbers(self.camps, web.points):
            return False
        found = self.camps
        return all([(found[tie[0]] == found[tie[1]]) == is_friend(tie, web.turn) for tie in web.ties()])


class Quarrel(Answer):
    def __init__(self, tie, steps):
        self.tie = tie
        self.steps = list(steps)

    def shows(self, web):
        ties = web.ties()
        if not is_place(ties, self.tie) or is_friend(ties[self.tie], web.turn):
            return False
        if not leads(web, ties[self.tie][0], ties[self.tie][1], self.steps):
            return False
        return all([is_friend(ties[step[0]], web.turn) for step in self.steps])


class Way(Answer):
    def __init__(self, steps):
        self.steps = list(steps)

    def shows(self, web, one, other):
        return is_point(web.points, other) and leads(web, one, other, self.steps)


class Apart(Answer):
    def __init__(self, points):
        self.points = list(points)

    def shows(self, web, one, other):
        if not is_point(web.points, one) or not is_point(web.points, other):
            return False
        return are_rising(self.points, web.points) and divides(self.points, web.ties(), one, other)


class Around(Answer):
    def __init__(self, steps):
        self.steps = list(steps)

    def shows(self, web, tie):
        ties = web.ties()
        if not is_place(ties, tie) or not leads(web, ties[tie][0], ties[tie][1], self.steps):
            return False
        return all([step[0] != tie for step in self.steps])


class Held(Answer):
    def __init__(self, points):
        self.points = list(points)

    def shows(self, web, tie):
        ties = web.ties()
        if not is_place(ties, tie) or not are_rising(self.points, web.points):
            return False
        return divides(self.points, ties[:tie] + ties[tie + 1:], ties[tie][0], ties[tie][1])
