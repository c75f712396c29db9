"""Ways between points or what keeps them apart, ties that can be spared or not, the fewest ties, and a walk's climb."""

from closering.answers import Apart, Around, Fewest, Held, Way
from closering.errors import BadPoint, BadTie
from closering.walks import every_tie, is_place, legs, part_numbers, reach, reach_all, ties_taken, trace
from closering.webs import is_point


# The refusals' words hold nothing that was handed in: not every value can be turned into a text.
def refuse_no_point(web, value):
    if not is_point(web.points, value):
        raise BadPoint("no point of the web")


def between(web, one, other):
    refuse_no_point(web, one)
    refuse_no_point(web, other)
    arrived = reach(web, every_tie(web), one)
    if other in arrived:
        return Way(trace(web, arrived, other))
    return Apart(sorted(arrived))


def spare(web, tie):
    ties = web.ties()
    if not is_place(ties, tie):
        raise BadTie("no tie of the web")
    others = [place for place in every_tie(web) if place != tie]
    arrived = reach(web, others, ties[tie][0])
    if ties[tie][1] in arrived:
        return Around(trace(web, arrived, ties[tie][1]))
    return Held(sorted(arrived))


def fewest(web):
    arrived = reach_all(web, every_tie(web))
    return Fewest(ties_taken(arrived), part_numbers(web, arrived))


def climb(web, start, steps):
    refuse_no_point(web, start)
    gone = legs(web, start, steps)
    if gone is None:
        raise BadTie("no list of steps that make a walk from there")
    end = gone[-1][1] if gone else start
    return (end, sum([made[2] for made in gone]))
