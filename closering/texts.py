"""Webs written as texts, and read from them."""

from closering.errors import BadText, BadWeb
from closering.webs import Web

# A web's longest number is -1000000. Python itself refuses to read figures by the thousand, but how many is a setting.
LONGEST = 8


def written_tie(tie):
    first = tie[0]
    second = tie[1]
    number = tie[2]
    return f"{first}>{second}:{number}"


def written(web):
    points = web.points
    turn = web.turn
    return " ".join([f"{points}/{turn}"] + [written_tie(tie) for tie in web.ties()])


def halves(text, sign):
    found = text.split(sign)
    if len(found) != 2:
        raise BadText("a sign is missing or stands too often")
    return found


def number_of(text):
    if len(text) > LONGEST:
        raise BadText("a number is too long")
    try:
        return int(text)
    except ValueError:
        raise BadText("a number is missing") from None


def tie_of(text):
    ends = halves(text, ">")
    rest = halves(ends[1], ":")
    return (number_of(ends[0]), number_of(rest[0]), number_of(rest[1]))


def web_of(text):
    words = text.split(" ")
    counts = [number_of(half) for half in halves(words[0], "/")]
    ties = [tie_of(word) for word in words[1:]]
    try:
        return Web(counts[0], ties, counts[1])
    except BadWeb:
        raise BadText("the text tells no web") from None


# Python reads numbers in more forms than the one that is written (01, +1, 1_0, -0): only what would be written just so
# is read.
def read(text):
    if not isinstance(text, str):
        raise BadText("only a text is read")
    web = web_of(text)
    if written(web) != text:
        raise BadText("the text is not as a web is written")
    return web
