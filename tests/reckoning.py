"""What the document says of webs and answers, reckoned a second time for the tests.

Nothing of the program is used here. A web is a triple here: its points, the list of its ties, its round. The
reckonings go by the words of the document and try all there is, so they are for small webs alone.
"""

import itertools
import random

ROUNDS = (0, 1, 2, 12, 1000000)
NUMBERS = (0, 0, 0, 1, -1, 2, -2, 3, 12, -12, 13, 24, 1000000, -1000000, 999999)


def alike(one, other, turn):
    if turn == 0:
        return one == other
    return abs(one - other) in range(0, abs(one - other) + 1, turn)


def is_friend(web, tie):
    return alike(web[1][tie][2], 0, web[2])


def gone(web, start, steps):
    """The points that the steps come to, one for each, and their climb; None if they make no walk from there."""
    here, climb, passed = start, 0, []
    for tie, way in steps:
        if tie not in range(len(web[1])) or way not in (1, -1):
            return None
        first, second, number = web[1][tie]
        if here != (first if way == 1 else second):
            return None
        here = second if way == 1 else first
        climb += way * number
        passed.append(here)
    return passed, climb


def is_straight_walk(web, start, end, steps):
    walk = gone(web, start, steps)
    if walk is None:
        return False
    passed = walk[0]
    if any(passed.count(point) > 1 for point in passed) or start in passed:
        return False
    return (passed[-1] if passed else start) == end


def is_rising_within(values, count):
    return values == [value for value in range(count) if value in values]


# 3 to 7: whether an answer with these fields is as the document tells.

def heights_hold(web, heights):
    return len(heights) == web[0] and all(alike(heights[second] - heights[first], number, web[2])
                                          for first, second, number in web[1])


def ring_holds(web, steps):
    taken = [tie for tie, way in steps]
    if len(steps) < 2 or any(taken.count(tie) > 1 for tie in taken):
        return False
    for start in range(web[0]):
        walk = gone(web, start, steps)
        if walk is not None:
            passed, climb = walk
            others = passed[:-1]
            simple = passed[-1] == start and start not in others and len(set(others)) == len(others)
            return simple and not alike(climb, 0, web[2])
    return False


def way_holds(web, one, other, steps):
    return is_straight_walk(web, one, other, steps)


def cut_holds(web, one, other, points, without=None):
    if not is_rising_within(points, web[0]) or one not in points or other in points:
        return False
    ties = [tie for place, tie in enumerate(web[1]) if place != without]
    return not any(len({first, second} & set(points)) == 1 for first, second, number in ties)


def around_holds(web, tie, steps):
    first, second, number = web[1][tie]
    return is_straight_walk(web, first, second, steps) and tie not in [step[0] for step in steps]


def held_holds(web, tie, points):
    first, second, number = web[1][tie]
    return cut_holds(web, first, second, points, tie)


def fewest_holds(web, kept, parts):
    count = len(web[1])
    if not is_rising_within(kept, count) or parts != parts_by(web, range(count)):
        return False
    return parts_by(web, kept) == parts and len(kept) == fewest_count(web)


def camps_hold(web, camps):
    if len(camps) != web[0]:
        return False
    for tie, (first, second, number) in enumerate(web[1]):
        if is_friend(web, tie) and camps[first] != camps[second]:
            return False
        if not is_friend(web, tie) and camps[first] == camps[second]:
            return False
    return True


def quarrel_holds(web, tie, steps):
    if tie not in range(len(web[1])) or is_friend(web, tie):
        return False
    first, second, number = web[1][tie]
    return is_straight_walk(web, first, second, steps) and all(is_friend(web, step[0]) for step in steps)


# What there is in a web, by trying all of it.

def parts_by(web, chosen):
    """The number of each point's part, by these ties alone."""
    least = list(range(web[0]))
    for again in range(web[0]):
        for tie in chosen:
            first, second, number = web[1][tie]
            least[first] = least[second] = min(least[first], least[second])
    firsts = sorted(set(least))
    return [firsts.index(point) for point in least]


def fewest_count(web):
    """How many ties it takes at the fewest, by trying all choices of them, the small ones first."""
    ties = range(len(web[1]))
    whole = parts_by(web, ties)
    for count in range(len(web[1]) + 1):
        if any(parts_by(web, chosen) == whole for chosen in itertools.combinations(ties, count)):
            return count


def all_rings(web):
    """The steps of all walks that come back to where they begin, by different ties and to no point twice."""
    def onward(start, here, steps, passed):
        for tie, (first, second, number) in enumerate(web[1]):
            for way, ahead, there in ((1, first, second), (-1, second, first)):
                if ahead == here and there not in passed and tie not in [step[0] for step in steps]:
                    if there == start:
                        yield steps + [(tie, way)]
                    else:
                        yield from onward(start, there, steps + [(tie, way)], passed + [there])
    for start in range(web[0]):
        yield from onward(start, start, [], [])


def has_bad_ring(web):
    return any(not alike(gone(web, beginning(web, steps), steps)[1], 0, web[2]) for steps in all_rings(web))


def beginning(web, steps):
    tie, way = steps[0]
    return web[1][tie][0 if way == 1 else 1]


def has_quarrel(web):
    friends = [tie for tie in range(len(web[1])) if is_friend(web, tie)]
    parts = parts_by(web, friends)
    return any(parts[first] == parts[second] and tie not in friends
               for tie, (first, second, number) in enumerate(web[1]))


# Webs to try.

def all_ties(points, numbers):
    return [(first, second, number) for first, second in itertools.permutations(range(points), 2)
            for number in numbers]


def tiny_webs():
    """Every web of up to 3 points and up to 2 ties with numbers from -1 to 1, for each round."""
    for points in (1, 2, 3):
        for count in (0, 1, 2):
            for ties in itertools.product(all_ties(points, (-1, 0, 1)), repeat=count):
                for turn in ROUNDS:
                    yield (points, list(ties), turn)


def mixed_webs(count, most_points=6, most_ties=8):
    """Webs from a fixed seed: some whose ties fit heights, some where a few of them don't, some with any numbers."""
    chance = random.Random(20)
    for k in range(count):
        points, turn = chance.randint(1, most_points), ROUNDS[k % len(ROUNDS)]
        # In every other web of its round some points stand by themselves, so that it has several parts.
        near = points if k // len(ROUNDS) % 2 else max(1, points - 2)
        heights = [chance.choice(NUMBERS) // 2 for point in range(points)]
        ties = []
        for tie in range(chance.randint(0, most_ties) if near > 1 else 0):
            first, second = chance.sample(range(near), 2)
            number = heights[second] - heights[first] + turn * chance.choice((0, 0, 1, -1))
            if k % 3 == 0 or k % 3 == 1 and chance.randrange(6) == 0:
                number = chance.choice(NUMBERS)
            ties.append((first, second, max(-1000000, min(1000000, number))))
        yield (points, ties, turn)


def friendly_webs(count, most_points=6, most_ties=8):
    """Webs from a fixed seed in which most ties are friends', so that quarrels go by several ties."""
    chance = random.Random(21)
    for k in range(count):
        points, turn = chance.randint(2, most_points), ROUNDS[k % len(ROUNDS)]
        ties = []
        for tie in range(chance.randint(0, most_ties)):
            first, second = chance.sample(range(points), 2)
            number = turn * chance.choice((0, 1, -1)) if chance.randrange(4) else chance.choice(NUMBERS)
            ties.append((first, second, max(-1000000, min(1000000, number))))
        yield (points, ties, turn)


def small_webs():
    yield from tiny_webs()
    yield from mixed_webs(900)
    yield from friendly_webs(400)
