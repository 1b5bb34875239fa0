"""A plain reader beside the program's: which token of a text is the first one that can't stand.

Each grammar is a generator: it yields what it asks of the next token, a
function of its text, and is sent the token if that holds. Ends of rows are
the token "end", that of the text "over".
"""

import re
from math import gcd

from whichpaces.numbers import is_number
from whichpaces.parts import is_least

WRITTEN = re.compile("0|-?[1-9][0-9]{0,399}")
END, OVER = object(), object()


def tokens(text):
    """The tokens with their places."""
    found, start = [], 0
    for row in text.split("\n"):
        stop = row.index("#") if "#" in row else len(row)
        own = [(match.group(), start + match.start()) for match in re.finditer("[^ ]+", row[:stop])]
        found += own + [(END, start + stop)] * bool(own)
        start += len(row) + 1
    return found + [(OVER, len(text))]


def whole(low, high):
    """Whether a token is an INTEGER from low to high."""
    def told(token):
        return isinstance(token, str) and bool(WRITTEN.fullmatch(token)) and low <= int(token) <= high
    return told


def fraction(allowed):
    """Whether a token is a RATIO of which the function holds."""
    def told(token):
        if not isinstance(token, str):
            return False
        parts = token.split("/")
        if len(parts) > 2 or not all([WRITTEN.fullmatch(part) for part in parts]):
            return False
        number, under = int(parts[0]), int(parts[-1]) if len(parts) == 2 else 1
        return (len(parts) == 1 or under > 1) and gcd(number, under) == 1 and allowed(number, under)
    return told


def word(*wanted):
    """Whether a token is one of these."""
    return lambda token: token in wanted


MOST = 10 ** 400 - 1


def number():
    """A NUMBER."""
    yield word("number")
    row = []
    while True:
        token = yield lambda token: (token == "at" and small_least(row)) or (len(row) < 7 and whole(-9999, 9999)(token))
        if token == "at":
            break
        row.append(int(token))
    yield lambda token: whole(0, 9)(token) and is_number(("number", tuple(row), int(token)))
    yield word(END)


def small_least(row):
    """Whether the INTEGERS are a least polynomial of degree 1 to 6."""
    return 2 <= len(row) <= 7 and row[-1] != 0 and is_least(tuple(row))


def machine(behind):
    """A MACHINE; what stands behind it begins with another word."""
    yield word("machine")
    places = int((yield whole(1, 12)))
    yield word(END)
    last, roads = (-1, -1, -1), 0
    while True:
        token = yield lambda token: token == behind or (token == "road" and roads < 60)
        if token == behind:
            return places
        one = int((yield lambda token: whole(0, places - 1)(token) and int(token) >= last[0]))
        other = int((yield lambda token: whole(0, places - 1)(token) and (one, int(token)) >= last[:2]))
        length = int((yield lambda token: whole(1, 400)(token) and (one, other, int(token)) > last))
        yield whole(1, MOST)
        yield word(END)
        last, roads = (one, other, length), roads + 1


def table():
    """A TABLE."""
    yield word("table")
    places = int((yield whole(1, 12)))
    yield word(END)
    for _ in range(places):
        yield word("row")
        for _ in range(places):
            yield whole(0, 10 ** 6)
        yield word(END)
    yield word(OVER)


def rounds():
    """ROUNDS."""
    yield word("rounds")
    yield word(END)
    last, many = 0, 0
    while True:
        token = yield lambda token: (token is OVER and many > 0) or (token == "round" and many < 60)
        if token is OVER:
            return
        last = int((yield lambda token: whole(1, 400)(token) and int(token) > last))
        yield whole(1, MOST)
        yield word(END)
        many += 1


def weights(places):
    """The weights of a paper behind the word of the first one."""
    degree = None
    for place in range(places):
        if place:
            yield word("weight")
        under = int((yield whole(1, MOST)))
        row = []
        while True:
            def ends(token):
                return token is END and gcd(under, *row) == 1 and (len(row) == degree if degree else len(row) > 0)
            token = yield lambda token: ends(token) or (len(row) < (degree or 6) and whole(-MOST, MOST)(token))
            if token is END:
                break
            row.append(int(token))
        degree = len(row)


def paper():
    """A paper."""
    yield word("paper")
    kind = yield word("machine", "ring", "beats", "hub", "second")
    if kind == "ring":
        yield fraction(lambda number, under: number > 0)
    elif kind == "beats":
        yield whole(2, 6)
    elif kind == "second":
        low = yield fraction(lambda number, under: number >= 0)
        low = [int(part) for part in (low + "/1").split("/")[:2]]
        yield fraction(lambda number, under: number * low[1] > low[0] * under)
    yield word(END)
    if kind == "machine":
        places = yield from machine("weight")
        yield from weights(places)
    if kind == "hub":
        yield from rounds()
    else:
        yield word(OVER)


def over(grammar):
    """The grammar with the end of the text behind it."""
    yield from grammar
    yield word(OVER)


GRAMMARS = {
    "number": lambda: over(number()), "machine": lambda: machine(OVER), "table": table, "rounds": rounds, "paper": paper,
}


def first_wrong(kind, text):
    """The place of the first token that can't stand, None if the text is right."""
    grammar = GRAMMARS[kind]()
    asked = next(grammar)
    for token, place in tokens(text):
        if not asked(token):
            return place
        try:
            asked = grammar.send(token)
        except StopIteration:
            return None
    raise ValueError(text)
