"""Heights of a web's points or the ring that doesn't close, and their camps or the quarrel between them."""

from closering.answers import Camps, Heights, Quarrel, Ring
from closering.walks import FORTH, every_tie, leg, part_numbers, reach, reach_all, ties_taken, trace
from closering.webs import alike, is_friend


def heights_along(web, arrived):
    ties = web.ties()
    heights = [0] * web.points
    for point, step in arrived.items():
        if step is not None:
            made = leg(ties, step)
            heights[point] = heights[made[0]] + made[2]
    return heights


# The way back goes by the ties that gave the heights alone: only then is the ring's climb what the tie is off by.
def ring_by(web, arrived, place):
    tie = web.ties()[place]
    return [(place, FORTH)] + trace(web, reach(web, ties_taken(arrived), tie[1]), tie[0])


def levels(web):
    arrived = reach_all(web, every_tie(web))
    heights = heights_along(web, arrived)
    for place, tie in enumerate(web.ties()):
        if not alike(heights[tie[1]] - heights[tie[0]], tie[2], web.turn):
            return Ring(ring_by(web, arrived, place))
    return Heights(heights)


def camps(web):
    ties = web.ties()
    friends = [place for place, tie in enumerate(ties) if is_friend(tie, web.turn)]
    numbers = part_numbers(web, reach_all(web, friends))
    for place, tie in enumerate(ties):
        if numbers[tie[0]] == numbers[tie[1]] and not is_friend(tie, web.turn):
            return Quarrel(place, trace(web, reach(web, friends, tie[0]), tie[1]))
    return Camps(numbers)
