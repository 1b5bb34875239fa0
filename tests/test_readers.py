"""Texts read, and where they are wrong [131], [134], [135]."""

import random
import unittest

from helpers import check_call, kinds_of
from plainreader import first_wrong, tokens
from sometexts import TOLD

from whichpaces.errors import BadText, InvalidText
from whichpaces.readers import read_machine, read_number, read_paper, read_rounds, read_table
from whichpaces.texts import machine_text, number_text, paper_text, rounds_text, table_text

READERS = {"number": read_number, "machine": read_machine, "table": read_table, "rounds": read_rounds, "paper": read_paper}
WRITERS = {"number": number_text, "machine": machine_text, "table": table_text, "rounds": rounds_text, "paper": paper_text}
NO_STRINGS = [None, True, False, 0, 5, b"rounds\nround 1 1\n", ["rounds"], ("table 1\nrow 1\n",), {}, object(), str, bytearray(b"")]
LONG, TOO_LONG = "9" * 400, "1" + "0" * 400
ROADS = "".join(["road 0 0 " + str(length) + " 1\n" for length in range(1, 61)])
SIXTY = "".join(["round " + str(length) + " 1\n" for length in range(1, 61)])

# By kind: texts with an @ ahead of the first token that can't stand (or where the row, or the text, ends).
WRONG = {
    "number": [
        "@", "  @", "\n\n@", "# number -1 -1 1 at 0@", "#\n@", " # x\n  # y\n@", "@numbers -1 1 at 0", "@Number -1 1 at 0",
        "@machine 1", "@-1 -1 1 at 0", "number@\n", "number@", "number   @# -1 1 at 0", "number @at 0", "number @x 1 at 0", "number -1 -1@",
        "number -1 -1 1@\nat 0", "number -1 -1 1  @# at 0", "number -1 -1 1 at@", "number -1 -1 1 at  @\n0", "number -1 -1 1 @At 0",
        "number -1 -1 1 @0.5", "number @10000 1 at 0", "number @-10000 1 at 0", "number -1 @10000 1 at 0",
        "number 9999 @at 0", "number -9999 1 at @1", "number 1 1 at @0", "number 0 1 at @0", "number 0 0 1 @at 0", "number 1 2 1 @at 0",
        "number 2 @at 0", "number 1 @at 0", "number -1 0 1 @at 0", "number -1 2 @at 0", "number 1 -1 @at 0", "number -2 0 1 at @1",
        "number -2 0 1 at @2", "number -2 0 1 at @-1", "number -2 0 1 at @00", "number -2 0 1 at @+0", "number -2 0 1 at @-0",
        "number -2 0 1 at @x", "number -2 0 1 at @0/1", "number 1 0 1 at @0", "number 1 0 -10 0 1 at @2", "number 1 0 -10 0 1 at 1 @0",
        "number -2 0 0 0 0 0 1 @0 1 at 0", "number -2 0 0 0 0 0 0 @1 at 0", "number 1 2 3 4 5 6 7 @8", "number 1 2 3 4 5 6 7 @at 0",
        "number 1 2 3 4 5 6 7@", "number -2 0 1 at 0 @at 0", "number -2 0 1 at 0 @0\n", "number -2 0 1 at 0\n@number -2 0 1 at 0\n",
        "number -2 0 1 at 0\n\n  @x", "number -2 0 1 at 0 # \n# \n @0 #", "number @01 1 at 0", "number @-01 1 at 0", "number @+1 1 at 0",
        "number @-0 1 at 0", "number @1/2 1 at 0", "number @1.0 1 at 0", "number @--1 1 at 0", "number @- 1 1 at 0", "number @1- 1 at 0",
        "number @1_0 1 at 0", "number @0x1 1 at 0", "number -1 1 at @" + "0" * 400, "number @" + LONG + " 1 at 0",
        "number -2 0 1 at @" + "1" * 401, "number @number -1 1 at 0", "number -1 1 at @at 0", "number -1 1 at 0 @x",
        "@at 0", "number@\n\n\n", "@9", "number -1 1@\nat 0",
    ],
    "machine": [
        "@", "@road 0 0 1 1", "machine@", "machine @0", "machine @13", "machine @-1", "machine @01", "machine @x", "machine @" + TOO_LONG,
        "machine 1 @1", "machine 1 @road 0 0 1 1", "machine 1\n@machine 1", "machine 1\n@roads 0 0 1 1", "machine 1\n@0 0 1 1", "machine 1\nroad@",
        "machine 1\nroad 0@", "machine 1\nroad 0 0@", "machine 1\nroad 0 0 1@", "machine 1\nroad 0 0 1 1 @1", "machine 1\nroad 0 0 1 @# 1",
        "machine 1\nroad @1 0 1 1", "machine 1\nroad 0 @1 1 1", "machine 1\nroad @-1 0 1 1", "machine 1\nroad 0 @-1 1 1", "machine 1\nroad 0 0 @0 1",
        "machine 1\nroad 0 0 @401 1", "machine 1\nroad 0 0 400 @0", "machine 1\nroad 0 0 1 @-1", "machine 1\nroad 0 0 1 @" + TOO_LONG,
        "machine 1\nroad 0 0 1 @01", "machine 1\nroad 0 0 1 @+1", "machine 1\nroad 0 0 1 @1/2", "machine 12\nroad 11 @12 1 1", "machine 12\nroad @12 1 1 1",
        "machine 2\nroad 1 0 1 1\nroad @0 1 1 1", "machine 2\nroad 0 1 1 1\nroad 1 @-1 1 1", "machine 2\nroad 0 1 1 1\nroad 1 0 @0 1", "machine 2\nroad 0 1 1 1\nroad 0 @0 2 1", "machine 2\nroad 0 1 2 1\nroad 0 1 @1 1",
        "machine 2\nroad 0 1 2 1\nroad 0 1 @2 1", "machine 2\nroad 0 1 2 1\nroad 0 1 @2 5", "machine 2\nroad 0 1 400 1\nroad 0 1 @401 1",
        "machine 2\nroad 0 1 2 1\nroad 1 0 1 1\nroad 1 0 @1 1", "machine 2\nroad 1 1 2 1\nroad 1 @0 9 1", "machine 2\nroad 1 1 2 1\nroad @0 0 9 1",
        "machine 2\nroad 1 1 2 1\n@x", "machine 2\nroad 1 1 2 1\n\n#\n @weight 1 1", "machine 1\n" + ROADS + "@road 0 0 61 1", "machine 1\n" + ROADS + "@x",
        "machine 1\n" + ROADS + "@road", "machine@\n1", "machine 1\nroad 0 0 1@\n1", "machine 1 @x",
        "machine 1\n@row 0", "machine 2\nroad 0 @x 1 1", "machine 2\nroad 0 0 @x 1", "machine 2\nroad 0 0 1 @x", "machine 2\nroad @x 0 1 1",
    ],
    "table": [
        "@", "@row 1", "table@", "table @0", "table @13", "table @-1", "table @x", "table 1 @1", "table 1@", "table 1\n@", "table 1 # x\n# y@", "table 1\n@1",
        "table 1\n@Row 1", "table 1\nrow@", "table 1\nrow @-1", "table 1\nrow @1000001", "table 1\nrow @00", "table 1\nrow @x", "table 1\nrow 1 @1",
        "table 2\nrow 1@\nrow 1 1", "table 2\nrow 1 1\n@", "table 2\nrow 1 1\nrow 1@", "table 2\nrow 1 1\nrow 1 1 @1", "table 2\nrow 1 1\nrow 1 1\n@row 1 1",
        "table 2\nrow 1 1\n@table 2", "table 2\nrow 1 1\n\n   @", "table 1\nrow 1000000\n@x", "table 1\nrow 1 @row 1", "table 12\n" + ("row" + " 0" * 12 + "\n") * 11 + "@",
        "table 12\n" + ("row" + " 0" * 12 + "\n") * 12 + "@row" + " 0" * 12, "table 12\nrow" + " 1" * 12 + " @1", "table 12\nrow" + " 1" * 11 + "@\n",
        "table 1\nrow @1/1", "table 1\nrow @" + "1" * 401, "table 1\nrow @" + "1" * 400,
    ],
    "rounds": [
        "@", "@round 1 1", "rounds\n@", "rounds\n@", "rounds @1", "rounds # x\n@", "rounds\n@rounds", "rounds\n@1 1", "rounds\nround@", "rounds\nround 1@",
        "rounds\nround @0 1", "rounds\nround @401 1", "rounds\nround @-1 1", "rounds\nround 1 @0", "rounds\nround 1 @-1", "rounds\nround 1 @" + TOO_LONG,
        "rounds\nround 1 1 @1", "rounds\nround 2 1\nround @2 1", "rounds\nround 2 1\nround @1 1", "rounds\nround 400 1\nround @401 1", "rounds\nround 1 1\n@x",
        "rounds\nround 1 1\n@rounds", "rounds\nround 1 1\nround@", "rounds\n" + SIXTY + "@round 61 1", "rounds\n" + SIXTY + "@x", "rounds\nround @x 1",
        "rounds\nround 1 @x", "rounds\nround @1/2 1", "rounds\nround @01 1", "rounds @round 1 1",
    ],
    "paper": [
        "@", "@ring 1", "paper@", "paper @rings 1", "paper @paper", "paper @Machine", "paper @1", "paper@\nring 1", "paper ring@", "paper ring @0", "paper ring @-1",
        "paper ring @-1/2", "paper ring @2/4", "paper ring @1/1", "paper ring @4/2", "paper ring @0/1", "paper ring @1/0", "paper ring @1/-2", "paper ring @-1/-2",
        "paper ring @/2", "paper ring @1/", "paper ring @/", "paper ring @1/2/3", "paper ring @01/2", "paper ring @1/02", "paper ring @+1/2", "paper ring @x",
        "paper ring @1.5", "paper ring @" + TOO_LONG, "paper ring @1/" + TOO_LONG, "paper ring 1/2 @1", "paper ring 1 @/2", "paper ring 1\n@x", "paper ring @1/ 2",
        "paper ring @0/2", "paper beats@", "paper beats @1", "paper beats @7", "paper beats @0", "paper beats @-2", "paper beats @02", "paper beats @2/1", "paper beats @x",
        "paper beats 2 @2", "paper beats 6\n@paper beats 6", "paper second@", "paper second @-1 2", "paper second @-1/2 1", "paper second 0@", "paper second 0 @0",
        "paper second 1 @1", "paper second 1 @1/2", "paper second 1/2 @1/3", "paper second 1/2 @1/2", "paper second 1/2 @2/3/4", "paper second 0 @2/2", "paper second @0/3 1",
        "paper second 0 1 @2", "paper second 0 1\n@x", "paper second 0 @-1", "paper second @x 1", "paper hub @rounds", "paper hub\n@", "paper hub\n@round 1 1",
        "paper hub\nrounds\n@", "paper hub\nrounds\nround @0 1", "paper hub\nrounds\nround 1 1\nround @1 1", "paper hub\nrounds\nround 1 1\n@weight 1 1", "paper hub @1",
        "paper machine @x", "paper machine\n@", "paper machine\n@road 0 0 1 1", "paper machine\nmachine 1\n@", "paper machine\nmachine 1 @1",
        "paper machine\nmachine 1\nroad 0 0 1 1\n@", "paper machine\nmachine 1\nroad 0 0 1 1\n@x", "paper machine\nmachine 1\n@weights 1 1",
        "paper machine\nmachine 1\nroad 0 0 1 1\nroad 0 0 @1 1", "paper machine\nmachine 1\n" + ROADS + "@road 0 0 61 1",
        "paper machine\nmachine 1\nweight@", "paper machine\nmachine 1\nweight 1@", "paper machine\nmachine 1\nweight @0 1", "paper machine\nmachine 1\nweight @-1 1",
        "paper machine\nmachine 1\nweight @1/2 1", "paper machine\nmachine 1\nweight 1 @x", "paper machine\nmachine 1\nweight 1 @1/2", "paper machine\nmachine 1\nweight 1 @01",
        "paper machine\nmachine 1\nweight 1 1 2 3 4 5 6 @7", "paper machine\nmachine 1\nweight 1 1 2 3 4 5 @x", "paper machine\nmachine 1\nweight 1 1\n@weight 1 1",
        "paper machine\nmachine 1\nweight 1 1\n@road 0 0 1 1", "paper machine\nmachine 2\nweight 1 1\n@", "paper machine\nmachine 2\nweight 1 1\n@road 0 0 1 1",
        "paper machine\nmachine 2\nweight 1 1\nweight 1@", "paper machine\nmachine 2\nweight 1 1\nweight 1 1 @1", "paper machine\nmachine 2\nweight 1 1 1\nweight 1 1@",
        "paper machine\nmachine 2\nweight 1 1 1\nweight 1 1 @x", "paper machine\nmachine 1\nweight 2 2@", "paper machine\nmachine 1\nweight 2 2 4 @# 1",
        "paper machine\nmachine 1\nweight 3 0 0@\n", "paper machine\nmachine 1\nweight 2 2 @x", "paper machine\nmachine 1\nweight 2 4 6 0 0 0 0@", "paper machine\nmachine 2\nweight 2 1\nweight 2 2@",
        "paper machine\nmachine 2\nweight 2 2 1\nweight 2 2@\n", "paper machine\nmachine 2\nweight 2 2 1\nweight 2 2 2@\n", "paper machine\nmachine 1\nweight 2 2 2 2 2 2 2 @1",
        "paper machine\nmachine 1\nweight 1 @" + TOO_LONG, "paper machine\nmachine 1\nweight @" + TOO_LONG + " 1", "paper machine\nmachine 1\nweight 1 @-" + TOO_LONG,
        "paper machine\nmachine 1\nweight 1 1 # \n \n@weight 1 1", "paper @at 0",
    ],
}


class Right(unittest.TestCase):
    def check_read(self, kind, text, value):
        """The text is read as this value."""
        check_call(self, READERS[kind], (text,), value)
        self.assertIsNone(first_wrong(kind, text), text)

    def test_what_is_written(self):
        for kind, pairs in TOLD.items():
            for value, text in pairs:
                self.check_read(kind, text, value)
                self.check_read(kind, WRITERS[kind](value), value)
                self.check_read(kind, text[:-1], value)

    def test_with_blanks_and_remarks(self):
        for kind, pairs in TOLD.items():
            for value, text in pairs:
                for new in [text.replace(" ", "   "), " " + text.replace("\n", "  \n "), "\n\n" + text.replace("\n", "\n\n  \n"),
                            text.replace("\n", " # 1 2 # at\n"), text.replace("\n", "#\n"), "# at\n" + text.replace("\n", "\n#\n"),
                            text + "   ", text[:-1] + "#", text + "#x", text + "\n\n \n # road\n", "#" + text.replace("\n", "\n#") + "\n" + text]:
                    self.check_read(kind, new, value)

    def test_integers_of_four_hundred_figures(self):
        self.check_read("rounds", "rounds\nround 1 " + LONG + "\n", ((1, int(LONG)),))
        self.check_read("paper", "paper ring " + LONG + "/" + LONG[:-1] + "8", ("ring", (int(LONG), int(LONG) - 1)))
        self.check_read("paper", "paper machine\nmachine 1\nweight " + LONG + " -" + LONG[:-1] + "8\n",
                        ("machine", ("machine", 1, ()), (((1 - int(LONG),), int(LONG)),)))


class Wrong(unittest.TestCase):
    def check_bad(self, kind, text, place):
        """The text is wrong at just this place."""
        for _ in range(2):
            with self.assertRaises(BadText, msg=(kind, text)) as caught:
                READERS[kind](text)
            self.assertIs(type(caught.exception), BadText)
            self.assertEqual(kinds_of(caught.exception.position), "int")
            self.assertEqual(caught.exception.position, place, (kind, text))

    def test_each_sentence(self):
        for kind, texts in WRONG.items():
            for marked in texts:
                place = marked.index("@")
                text = marked.replace("@", "")
                self.assertEqual(marked.count("@"), 1, marked)
                self.check_bad(kind, text, place)
                self.assertEqual(first_wrong(kind, text), place, marked)
                if place < len(text) and text[place] not in "\n#":
                    # With remarks and blanks ahead it is the same token.
                    self.check_bad(kind, "# more\n  " + text, place + 9)
                if "\n" not in text and "#" not in text and place < len(text):
                    self.check_bad(kind, text.replace(" ", "  "), place + text[:place].count(" "))

    def test_texts_of_another_kind(self):
        for kind in READERS:
            for other, pairs in TOLD.items():
                for _, text in pairs:
                    if other != kind:
                        self.check_bad(kind, text, 0)

    def outcome(self, kind, text):
        """Where the text is wrong, None if it is read."""
        try:
            value = READERS[kind](text)
        except BadText as wrong:
            return wrong.position
        self.assertEqual(READERS[kind](WRITERS[kind](value)), value)
        return None

    def changes(self, chance, text):
        """The text with one token, row or sign taken out, doubled, exchanged, put in or cut off."""
        told = [(token, place) for token, place in tokens(text) if isinstance(token, str)]
        token, place = chance.choice(told)
        other, there = chance.choice(told)
        rows = text.split("\n")
        row = chance.randrange(len(rows))
        sign = chance.randrange(len(text))
        behind = place + len(token)
        yield text[:place] + text[behind:]
        yield text[:behind] + " " + token + text[behind:]
        yield text[:place] + other + text[behind:]
        yield text[:place] + chance.choice(["0", "-1", "1/2", "x", "at", "13", "401", "10000", "road", "weight", "#", "\n", "2", "6"]) + text[behind:]
        yield text[:place] + chance.choice(["0 ", "1 ", "at ", "x ", "road ", "# ", "\n", "-", "0", "1/"]) + text[place:]
        yield "\n".join(rows[:row] + rows[row + 1:])
        yield "\n".join(rows[:row] + rows[row:row + 1] + rows[row:])
        yield "\n".join(rows[:row] + rows[row + 1:row + 2] + rows[row:row + 1] + rows[row + 2:])
        yield text[:sign] + text[sign + 1:]
        yield text[:sign] + text[sign] + text[sign:]
        yield text[:sign] + chance.choice("0123456789-/# \nax") + text[sign:]
        yield text[:sign] + chance.choice("0123456789-/# \nax") + text[sign + 1:]
        yield text[:sign]
        yield text[sign:]

    def test_texts_bent_in_one_thing(self):
        chance = random.Random(135)
        wrong = 0
        for kind, pairs in TOLD.items():
            for _, text in pairs:
                if len(text) < 700:
                    for _ in range(40):
                        for new in self.changes(chance, text):
                            told = first_wrong(kind, new)
                            self.assertEqual(self.outcome(kind, new), told, (kind, new))
                            wrong += told is not None
        self.assertGreater(wrong, 8000)

    def test_cut_off_at_each_sign(self):
        for kind, pairs in TOLD.items():
            for _, text in pairs:
                if len(text) < 200:
                    for stop in range(len(text) + 1):
                        self.assertEqual(self.outcome(kind, text[:stop]), first_wrong(kind, text[:stop]), (kind, text[:stop]))
                        new = text[:stop] + "@" + text[stop:]
                        self.assertEqual(self.outcome(kind, new), first_wrong(kind, new), (kind, new))

    def test_no_strings(self):
        for reader in READERS.values():
            for value in NO_STRINGS:
                with self.assertRaises(InvalidText) as caught:
                    reader(value)
                self.assertIs(type(caught.exception), InvalidText)
                self.assertIs(caught.exception.value, value)


if __name__ == "__main__":
    unittest.main()
