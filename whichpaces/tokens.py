"""Texts as tokens, taken one after the other: the first one that can't stand is refused."""

from math import gcd

from whichpaces.errors import BadText
from whichpaces.ratios import ratio_compared

MOST_FIGURES = 400
FIGURES = "0123456789"
# No token has a line feed, and none is nothing: these are the end of a row, and of the text.
END_OF_ROW = "\n"
END_OF_TEXT = ""


def tokens_of(text):
    """The list of the tokens, tuples (token, place), with the ends of rows with tokens, and of the text."""
    tokens = []
    start = 0
    for row in text.split("\n"):
        told, _, _ = row.partition("#")
        own = []
        place = start
        for word in told.split(" "):
            if word:
                own.append((word, place))
            place += len(word) + 1
        if own:
            tokens += own + [(END_OF_ROW, start + len(told))]
        start += len(row) + 1
    return tokens + [(END_OF_TEXT, len(text))]


def integer_of(word):
    """The INTEGER that a token writes, None if it writes none."""
    figures = word[1:] if word.startswith("-") else word
    if not 1 <= len(figures) <= MOST_FIGURES or not all([figure in FIGURES for figure in figures]):
        return None
    if figures[0] == "0" and word != "0":
        return None
    return int(word)


def ratio_of(word):
    """The RATIO that a token writes, None if it writes none."""
    told, bar, told_under = word.partition("/")
    number = integer_of(told)
    if not bar:
        return None if number is None else (number, 1)
    under = integer_of(told_under)
    if number is None or under is None or under < 2 or gcd(number, under) != 1:
        return None
    return number, under


class Reading:
    """The tokens of a text, and how many of them are taken."""

    def __init__(self, text):
        self._tokens = tokens_of(text)
        self._taken = 0

    def seen(self):
        """The next token."""
        return self._tokens[self._taken][0]

    def refuse(self):
        """Refuse the next token."""
        raise BadText(self._tokens[self._taken][1])

    def word(self, wanted):
        """Take this word alone."""
        if self.seen() != wanted:
            self.refuse()
        self._taken += 1

    def end_of_row(self):
        """Take the end of a row."""
        self.word(END_OF_ROW)

    def end_of_text(self):
        """Refuse what stands behind the last row."""
        if self.seen() != END_OF_TEXT:
            self.refuse()

    def integer(self, low, high):
        """Take an INTEGER from low to high."""
        number = integer_of(self.seen())
        if number is None or not low <= number <= high:
            self.refuse()
        self._taken += 1
        return number

    def ratio(self, low, itself):
        """Take a RATIO above another one, which may stand itself or not."""
        found = ratio_of(self.seen())
        if found is None:
            self.refuse()
        compared = ratio_compared(found, low)
        if compared == -1 or (compared == 0 and not itself):
            self.refuse()
        self._taken += 1
        return found
