"""Values written [131] to [133]."""

import unittest

from helpers import BAD_MACHINE, BAD_NUMBER, BAD_ROUNDS, BAD_TABLE, NO_MACHINES, NO_RATIOS, NO_ROUNDS, check_call, check_refused
from helpers import check_wrong
from sometexts import GOLDEN, TOLD
from somenumbers import ALONE, BEATS, BEYOND, lists_within, trues_within

from whichpaces.deciding import beatless_paper, paper_of
from whichpaces.errors import InvalidPaper, TooMany
from whichpaces.hubpapers import hub_paper
from whichpaces.texts import has_paper_form, machine_text, number_text, paper_text, rounds_text, table_text

WRITERS = {"number": number_text, "machine": machine_text, "table": table_text, "rounds": rounds_text, "paper": paper_text}
RIGHT = [value for value, _ in TOLD["paper"]]
NO_PAPERS = [
    None, True, False, 0, 2, "paper", "ring", b"ring", (), [], {}, object(), int, ("ring",), ("beats",), ("hub",), ("second",), ("machine",),
    (("ring",), (1, 1)), (None, (1, 1)), ("Ring", (1, 1)), (b"ring", (1, 1)), ("ring", (1, 1), 0), ["ring", (1, 1)], {"ring": (1, 1)},
    ("ring", (0, 1)), ("ring", (-1, 1)), ("ring", (2, 2)), ("ring", 1), ("ring", [1, 1]), ("ring", None), ("ring", ((1, 1),)),
    ("beats", 1), ("beats", 0), ("beats", -2), ("beats", 7), ("beats", 10 ** 30), ("beats", True), ("beats", "2"), ("beats", (2,)),
    ("beats", None), ("beats", 2, 3), ["beats", 2], ("second", (0, 1), (0, 1)), ("second", (1, 1), (0, 1)), ("second", (-1, 2), (1, 1)),
    ("second", (0, 1)), ("second", (0, 1), (1, 1), (2, 1)), ("second", (0, 2), (1, 1)), ("second", (0, 1), (2, 2)), ("second", 0, 1),
    ("second", [0, 1], (1, 1)), ("second", (0, 1), None), ("second", ((0, 1), (1, 1))), ("hub", ()), ("hub", ((1, 1),), 0), ("hub", [(1, 1)]),
    ("hub", ((2, 1), (1, 1))), ("hub", GOLDEN), ["hub", ((1, 1),)], ("machine", GOLDEN), ("machine", GOLDEN, ()),
    ("machine", GOLDEN, (((0, 1), 3), ((0, 1), 3))), ("machine", GOLDEN, [((0, 1), 3)]), ("machine", GOLDEN, (([0, 1], 3),)),
    ("machine", GOLDEN, ([(0, 1), 3],)), ("machine", GOLDEN, (((), 1),)), ("machine", GOLDEN, (((1,) * 7, 1),)),
    ("machine", GOLDEN, (((0, 2), 2),)), ("machine", GOLDEN, (((0, 0), 2),)), ("machine", GOLDEN, (((0, 1), 0),)),
    ("machine", GOLDEN, (((0, 1), -3),)), ("machine", GOLDEN, (((0, True), 3),)), ("machine", GOLDEN, (((False, 1), 3),)),
    ("machine", GOLDEN, (((0, 1), True),)), ("machine", GOLDEN, (((0, 1),),)), ("machine", GOLDEN, (((0, 1), 3, 1),)),
    ("machine", GOLDEN, ((0, 1),)), ("machine", GOLDEN, (None,)), ("machine", GOLDEN, None), ("machine", GOLDEN, (("01", 3),)),
    ("machine", GOLDEN, (((0, "1"), 3),)), ("machine", GOLDEN, (((0, 1), "3"),)), ("machine", GOLDEN, (((0, None), 3),)),
    ("machine", ("machine", 2, ()), (((1, 0), 1), ((1,), 1))), ("machine", ("machine", 2, ()), (((1,), 1), ((1, 0), 1))),
    ("machine", ("machine", 2, ()), (((1,), 1), ((2,), 2))), ("machine", ("machine", 2, ()), (((1,), 1), None)),
    ("machine", ("machine", 2, ()), (None, ((1,), 1))), ("machine", ("machine", 2, ()), (((1,), 1), ())), ("machine", (), ()),
    ("machine", GOLDEN, (((0, 1), 3),), 0), ["machine", GOLDEN, (((0, 1), 3),)], ("machine", 1, ((0, 0, 1, 1),)),
    ("along", ((1,),)), ("between", (1, 1)), ("number", (-1, -1, 1), 0),
]


class Forms(unittest.TestCase):
    def test_right_forms(self):
        for value in RIGHT + [("machine", ("machine", 1, ()), (((1,), 1),)), ("machine", ("machine", 1, ()), (((-1, 0, 0, 0, 0, 5), 4),))]:
            check_call(self, has_paper_form, (value,), True)

    def test_papers_that_are_told(self):
        for number in ALONE + BEATS + BEYOND:
            for tell in [paper_of, beatless_paper, hub_paper]:
                try:
                    check_call(self, has_paper_form, (tell(number),), True)
                except TooMany:
                    pass

    def test_almost_papers(self):
        for value in NO_PAPERS + [(word, told) for word in ["ring", "hub", "second", "machine"] for told in NO_RATIOS]:
            self.assertIs(has_paper_form(value), False, value)
        for value in NO_ROUNDS:
            self.assertIs(has_paper_form(("hub", value)), False)
        for value in NO_MACHINES:
            self.assertIs(has_paper_form(("machine", value, (((0, 1), 3),))), False)
        for value in NO_RATIOS:
            self.assertIs(has_paper_form(("second", value, (3, 1))), False)
            self.assertIs(has_paper_form(("second", (0, 1), value)), False)
        for paper in RIGHT:
            if len(str(paper)) < 600:
                for value in lists_within(paper) + trues_within(paper) + [paper + (0,), paper[:-1], (paper,), ("x",) + paper[1:]]:
                    self.assertIs(has_paper_form(value), False, value)


class Written(unittest.TestCase):
    def test_every_value(self):
        for kind, pairs in TOLD.items():
            for value, text in pairs:
                check_call(self, WRITERS[kind], (value,), text)

    def test_signs_that_are_written(self):
        for kind, pairs in TOLD.items():
            for value, _ in pairs:
                text = WRITERS[kind](value)
                self.assertTrue(text.endswith("\n"))
                self.assertNotIn("  ", text)
                self.assertNotIn(" \n", text)
                self.assertNotIn("\n\n", text)
                self.assertFalse(text.startswith(" "))

    def test_wrong_values(self):
        check_wrong(self, number_text, (("number", (-1, 1), 0),), [BAD_NUMBER])
        check_wrong(self, machine_text, (GOLDEN,), [BAD_MACHINE])
        check_wrong(self, table_text, (((1,),),), [BAD_TABLE])
        check_wrong(self, rounds_text, (((1, 1),),), [BAD_ROUNDS])
        check_wrong(self, paper_text, (("beats", 2),), [(InvalidPaper, NO_PAPERS)])
        for paper in RIGHT[:7]:
            for value in lists_within(paper) + trues_within(paper):
                check_refused(self, InvalidPaper, value, paper_text, value)


if __name__ == "__main__":
    unittest.main()
