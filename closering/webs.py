"""Webs: points, ties that tell how much higher one point is than another, and a round."""

from closering.errors import BadWeb, Unlike

MOST = 1000000


# Python counts True and False among the whole numbers, the document doesn't.
def is_number(value):
    return isinstance(value, int) and not isinstance(value, bool)


def is_within(value, least, most):
    return is_number(value) and least <= value <= most


def is_point(points, value):
    return is_within(value, 0, points - 1)


def is_tie(points, value):
    if not isinstance(value, tuple) or len(value) != 3:
        return False
    if not is_point(points, value[0]) or not is_point(points, value[1]):
        return False
    return value[0] != value[1] and is_within(value[2], -MOST, MOST)


# A triple of the web's own is made, so that no kind of tuple that the caller made up is kept.
# The refusals' words hold nothing that was handed in: not every value can be turned into a text.
def own_tie(points, value):
    if not is_tie(points, value):
        raise BadWeb("a tie is a triple of two different points of the web and a number from -1000000 to 1000000")
    return (value[0], value[1], value[2])


def alike(one, other, turn):
    if turn == 0:
        return one == other
    return (one - other) % turn == 0


def is_friend(tie, turn):
    return alike(tie[2], 0, turn)


class Web:
    def __init__(self, points, ties, turn):
        if not is_within(points, 1, MOST):
            raise BadWeb("a web has 1 to 1000000 points")
        if not is_within(turn, 0, MOST):
            raise BadWeb("a round is a whole number from 0 to 1000000")
        if not isinstance(ties, list):
            raise BadWeb("the ties are a list")
        self.points = points
        self.turn = turn
        self.triples = [own_tie(points, tie) for tie in ties]

    def ties(self):
        return list(self.triples)


def turned(tie):
    return (tie[1], tie[0], -tie[2])


def about(web):
    return Web(web.points, [turned(tie) for tie in web.ties()], web.turn)


def together(one, other):
    if not isinstance(one, Web) or not isinstance(other, Web):
        raise Unlike("only webs are put together")
    if one.points != other.points or one.turn != other.turn:
        raise Unlike("only webs with as many points and one round are put together")
    return Web(one.points, one.ties() + other.ties(), one.turn)
