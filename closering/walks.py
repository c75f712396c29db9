"""Steps and walks: a step is a pair of a tie's place in its web and a way, a walk a list of steps from a point on."""

from closering.webs import is_number, is_point, is_within, turned

FORTH = 1
BACK = -1


def is_place(ties, value):
    return is_within(value, 0, len(ties) - 1)


def is_step(ties, value):
    if not isinstance(value, tuple) or len(value) != 2:
        return False
    return is_place(ties, value[0]) and is_number(value[1]) and value[1] in (FORTH, BACK)


# A step gone back is a tie turned about, so what a step does is told as a tie: from where, to where, how much higher.
def leg(ties, step):
    tie = ties[step[0]]
    return tie if step[1] == FORTH else turned(tie)


# None, not an error, where the steps make no walk from there: to some callers that is a refusal, to others a plain no.
def legs(web, start, steps):
    if not is_point(web.points, start) or not isinstance(steps, list):
        return None
    ties = web.ties()
    gone = []
    here = start
    for step in steps:
        if not is_step(ties, step):
            return None
        gone.append(leg(ties, step))
        if gone[-1][0] != here:
            return None
        here = gone[-1][1]
    return gone


# The point where the walk begins stands first, so that the last one is where the walk comes to, with no steps too.
def stops(web, start, steps):
    gone = legs(web, start, steps)
    if gone is None:
        return None
    return [start] + [made[1] for made in gone]


def rise(web, start, steps):
    gone = legs(web, start, steps)
    if gone is None:
        return None
    return sum([made[2] for made in gone])


def is_straight(web, start, steps):
    passed = stops(web, start, steps)
    return passed is not None and len(set(passed)) == len(passed)


def leads(web, one, other, steps):
    return is_straight(web, one, steps) and stops(web, one, steps)[-1] == other


def every_tie(web):
    return list(range(len(web.ties())))


def steps_from(web, chosen):
    ties = web.ties()
    found = [[] for point in range(web.points)]
    for place in chosen:
        found[ties[place][0]].append((place, FORTH))
        found[ties[place][1]].append((place, BACK))
    return found


# Puts into `arrived` each point that walks from the start come to, with the step by which it was first come to, None
# for the start. A point stands behind the one from which it was come to: what is known there can be carried on here.
def spread(ties, onward, start, arrived):
    arrived[start] = None
    waiting = [start]
    place = 0
    while place < len(waiting):
        here = waiting[place]
        for step in onward[here]:
            there = leg(ties, step)[1]
            if there not in arrived:
                arrived[there] = step
                waiting.append(there)
        place += 1


def reach(web, chosen, start):
    arrived = {}
    spread(web.ties(), steps_from(web, chosen), start, arrived)
    return arrived


# The points of one part stand together, the parts in the turn of the points that come first.
def reach_all(web, chosen):
    ties = web.ties()
    onward = steps_from(web, chosen)
    arrived = {}
    for point in range(web.points):
        if point not in arrived:
            spread(ties, onward, point, arrived)
    return arrived


# Each point was come to once, so the steps back from one of them make a straight walk.
def trace(web, arrived, goal):
    ties = web.ties()
    steps = []
    here = goal
    while arrived[here] is not None:
        steps.append(arrived[here])
        here = leg(ties, arrived[here])[0]
    steps.reverse()
    return steps


def ties_taken(arrived):
    return sorted([step[0] for step in arrived.values() if step is not None])


def part_numbers(web, arrived):
    numbers = [0] * web.points
    begun = 0
    for point, step in arrived.items():
        if step is None:
            begun += 1
        numbers[point] = begun - 1
    return numbers
