"""Steps and walks: a step is a pair of a tie's place in its web and a way, a walk a list of steps from a point on."""

from closering.webs import is_number, is_point, is_within, turned

FORTH = 1
BACK = -1


def is_step(ties, value):
    if not isinstance(value, tuple) or len(value) != 2:
        return False
    return is_within(value[0], 0, len(ties) - 1) and is_number(value[1]) and value[1] in (FORTH, BACK)


# A step gone back is a tie turned about, so what a step does is told as a tie: from where, to where, how much higher.
def leg(ties, step):
    tie = ties[step[0]]
    return tie if step[1] == FORTH else turned(tie)


# None, not an error, where the steps make no walk from there: to some callers that is a refusal, to others a plain no.
def legs(web, start, steps):
    if not is_point(web.points, start) or not isinstance(steps, list):
        return None
    ties = web.ties()
    gone = []
    here = start
    for step in steps:
        if not is_step(ties, step):
            return None
        gone.append(leg(ties, step))
        if gone[-1][0] != here:
            return None
        here = gone[-1][1]
    return gone


# The point where the walk begins stands first, so that the last one is where the walk comes to, with no steps too.
def stops(web, start, steps):
    gone = legs(web, start, steps)
    if gone is None:
        return None
    return [start] + [made[1] for made in gone]


def rise(web, start, steps):
    gone = legs(web, start, steps)
    if gone is None:
        return None
    return sum([made[2] for made in gone])


def is_straight(web, start, steps):
    passed = stops(web, start, steps)
    return passed is not None and len(set(passed)) == len(passed)
