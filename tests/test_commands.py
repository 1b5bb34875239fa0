"""Names, questions, commands and answers [141] to [145]."""

import unittest

from helpers import NO_MACHINES, NO_NUMBERS, NO_RATIOS, NO_ROUNDS, NO_TABLES, check_call, check_refused, check_state
from somenumbers import ALONE, BEATS, BEYOND, lists_within, trues_within
from sometexts import GOLDEN
from test_between import pairs_alike, ring_of
from test_hubs import TOO_LONG

from whichpaces.along import along, is_along, is_not_behind, not_behind
from whichpaces.between import is_between, paces_compared, ratio_between
from whichpaces.commands import answer_to, is_answer, is_command, is_desk_deed, is_name, is_question, is_thing, statement_of
from whichpaces.deciding import beatless_paper, is_beatless_paper, is_paper, paper_of
from whichpaces.errors import InvalidQuestion, NotTogether, TooMany
from whichpaces.hubpapers import beatless_hub_paper, hub_paper, is_beatless_hub_paper, is_hub_paper

NAMES = ["a", "z", "a1", "abcdefgh", "a0000000", "n", "undo", "at", "x9y8z7"]
NO_NAMES = [
    None, True, False, 0, 1, "", "1", "1a", "0", "A", "aB", "abcdefghi", "a_b", "a-b", "a b", " a", "a ", "a\n", "a.b", "_a", "a#", b"a", ["a"],
    ("a",), {}, {"a": 1}, object(), str, "a" * 100,
]
OF_A_NUMBER = {"pace": (paper_of, is_paper), "beatless": (beatless_paper, is_beatless_paper), "hub": (hub_paper, is_hub_paper),
               "beatlesshub": (beatless_hub_paper, is_beatless_hub_paper)}
QUESTIONS = [(word, "a") for word in OF_A_NUMBER] + [("along", "a", "b"), ("behind", "a", "b"), ("along", "c3", "c3"), ("behind", "a", "a")]
NO_QUESTIONS = [
    None, True, 0, "pace", "", b"pace", (), [], {}, object(), ("pace",), ("pace", "a", "b"), ["pace", "a"], ("Pace", "a"), ("", "a"), (None, "a"), (b"pace", "a"),
    (("pace",), "a"), ("pace", ("a",)), ("pace", ["a"]), ("along",), ("along", "a"), ("along", "a", "b", "c"), ("behind", "a"), ["along", "a", "b"],
    ("along", ("a", "b")), ("between", "a", "b"), ("ring", "a"), ("a", "pace"), {"pace": "a"}, ("ask", ("pace", "a")), (True, "a"), (1, "a"), ([], "a"),
] + [(word, name) for word in OF_A_NUMBER for name in NO_NAMES] + [
    (word, "a", name) for word in ["along", "behind"] for name in NO_NAMES] + [(word, name, "a") for word in ["along", "behind"] for name in NO_NAMES]
SORTS = ["number", "machine", "table", "rounds"]
NO_SORTS = [None, True, 0, "", "Number", "numbers", "paper", "question", b"table", ("table",), ["table"], {}, object()]
ANY = [None, True, 0, -1, 3, "x", "", "1a", (), [], {}, object(), ("number", (-1, 1), 0), [[1]], "number -1 1 at 0"]
OF_TWO = ["side_by_side", "in_turn", "hubs_joined", "number_sum", "number_product"]
WITH_MANY = ["many_ties", "lengthened", "number_power", "number_root"]
OF_ONE = ["machine_of", "table_of", "turned_about", "pace", "hub_machine", "machine_for", "hub_for"]
NO_WAYS = [None, True, 0, "", "Pace", "weights", "lots", "lot_alone", "beatless_machine", "beatless_hub", "number_floor", "side by side", b"pace", ("pace",), ["pace"], {}]
DEEDS = (
    [("new", "a", sort, thing) for sort in SORTS for thing in ANY] + [("read", "a", sort, text) for sort in SORTS for text in ANY]
    + [("drop", "a"), ("renew", "a"), ("forget", "a")] + [("note", "a", question) for question in QUESTIONS]
    + [("attach", "a", question, answer) for question in QUESTIONS for answer in ANY]
    + [("build", "a", way, "b", "c") for way in OF_TWO] + [("build", "a", way, "a", "a") for way in OF_TWO]
    + [("build", "a", way, "b", many) for way in WITH_MANY for many in ANY + NAMES] + [("build", "a", way, "b") for way in OF_ONE]
)
OTHERS = [("undo",), ("redo",)] + [("ask", question) for question in QUESTIONS]
NO_COMMANDS = (
    [None, True, 0, 5, "undo", "", b"undo", (), [], {}, object(), ["undo"], ("undo", 1), ("redo", "a"), ("Undo",), ("",), (None,), (("undo",),), ([],), ("do", "a"),
     (True,), ("ask",), ("ask", "pace"), ["ask", ("pace", "a")], ("ask", ("pace", "a"), 1), ("ask", "pace", "a"), ("new",), ("new", "a"), ("new", "a", "table"),
     ("new", "a", "table", ((1,),), 1), ["new", "a", "table", ((1,),)], ("new", "a", ((1,),), "table"), ("read", "a", "table"), ("read", "a", "table", "x", 0),
     ("drop",), ("drop", "a", "b"), ["drop", "a"], ("renew",), ("renew", "a", ("pace", "a")), ("forget",), ("forget", "a", "b"), ("note",), ("note", "a"),
     ("note", "a", ("pace", "a"), 1), ["note", "a", ("pace", "a")], ("note", "a", "pace", "b"), ("attach", "a", ("pace", "a")), ("attach",),
     ("attach", "a", ("pace", "a"), 1, 2), ["attach", "a", ("pace", "a"), 1], ("build",), ("build", "a"), ("build", "a", "pace"), ("build", "a", "pace", "b", "c"),
     ("build", "a", "pace", "b", None), ["build", "a", "pace", "b"], ("build", "a", "many_ties", "b"), ("build", "a", "many_ties", "b", 2, 3),
     ("build", "a", "side_by_side", "b"), ("build", "a", "side_by_side", "b", "c", "d"), ("build", "a", ("pace", "b"))]
    + [(word, name, "table", ((1,),)) for word in ["new", "read"] for name in NO_NAMES]
    + [(word, "a", sort, ((1,),)) for word in ["new", "read"] for sort in NO_SORTS]
    + [(word, name) for word in ["drop", "renew", "forget"] for name in NO_NAMES]
    + [("note", name, ("pace", "a")) for name in NO_NAMES] + [("note", "a", question) for question in NO_QUESTIONS]
    + [("attach", name, ("pace", "a"), 1) for name in NO_NAMES] + [("attach", "a", question, 1) for question in NO_QUESTIONS]
    + [("ask", question) for question in NO_QUESTIONS]
    + [("build", name, "pace", "b") for name in NO_NAMES] + [("build", "a", "pace", name) for name in NO_NAMES]
    + [("build", "a", way, "b") for way in NO_WAYS + OF_TWO + WITH_MANY] + [("build", "a", way, "b", "c") for way in NO_WAYS + OF_ONE]
    + [("build", "a", way, "b", name) for way in OF_TWO for name in NO_NAMES] + [("build", "a", way, name, "c") for way in OF_TWO + WITH_MANY for name in NO_NAMES]
    + [("build", name, way, "b", "c") for way in OF_TWO + WITH_MANY for name in NO_NAMES]
)


class Forms(unittest.TestCase):
    def test_names(self):
        for value in NAMES:
            check_call(self, is_name, (value,), True)
        for value in NO_NAMES:
            self.assertIs(is_name(value), False, value)

    def test_questions(self):
        for value in QUESTIONS:
            check_call(self, is_question, (value,), True)
            for bent in lists_within(value) + [value + ("a",), value[:-1], (value,), value[1:]]:
                self.assertIs(is_question(bent), False, bent)
        for value in NO_QUESTIONS:
            self.assertIs(is_question(value), False, value)

    def test_commands(self):
        for value in DEEDS:
            self.assertIs(is_command(value), True, value)
            self.assertIs(is_desk_deed(value), True, value)
            self.assertIs(is_command(list(value)), False)
            self.assertIs(is_command(value + (1,)), len(value) == 4 and value[0] == "build" and value[2] in WITH_MANY)
        for value in OTHERS:
            self.assertIs(is_command(value), True, value)
            self.assertIs(is_desk_deed(value), False, value)
        for value in NO_COMMANDS:
            self.assertIs(is_command(value), False, value)
            self.assertIs(is_desk_deed(value), False, value)

    def test_parts_left_out(self):
        for value in [("new", "a", "table", ((1,),)), ("read", "a", "table", "x"), ("drop", "a"), ("build", "a", "pace", "b"), ("note", "a", ("pace", "a")),
                      ("attach", "a", ("pace", "a"), 1), ("renew", "a"), ("forget", "a"), ("ask", ("pace", "a")), ("build", "a", "in_turn", "b", "c"),
                      ("build", "a", "many_ties", "b", 2)]:
            self.assertIs(is_command(value), True)
            for at in range(len(value)):
                self.assertIs(is_command(value[:at] + value[at + 1:]), False, value)
                doubled = value[:at + 1] + value[at:]
                self.assertIs(is_command(doubled), False, doubled)
                self.assertIs(is_command(value[:at] + ([value[at]],) + value[at + 1:]),
                              at == len(value) - 1 and value[0] in ["new", "read", "attach"] or value[:1] + value[2:4] == ("build", "many_ties", "b") and at == 4)

    def test_things(self):
        right = {"number": [("number", (-1, -1, 1), 0), ("number", (1, -3, 1), 1)], "machine": [GOLDEN, ("machine", 12, ())],
                 "table": [((1,),), ((1, 1), (2, 1)), ((0,) * 12,) * 12], "rounds": [((1, 1),), ((1, 1), (2, 1)), ((400, 5),)]}
        for sort, values in right.items():
            for value in values:
                check_call(self, is_thing, (sort, value), True)
                for bent in lists_within(value) + trues_within(value):
                    self.assertIs(is_thing(sort, bent), False, bent)
        for sort, values in {"number": NO_NUMBERS, "machine": NO_MACHINES, "table": NO_TABLES, "rounds": NO_ROUNDS}.items():
            for value in values:
                self.assertIs(is_thing(sort, value), False, (sort, value))
        for sort in SORTS:
            for other, values in right.items():
                for value in values:
                    self.assertIs(is_thing(sort, value), sort == other or value == ((1, 1), (2, 1)) and {sort, other} == {"table", "rounds"})


class OfANumber(unittest.TestCase):
    def test_answers(self):
        for number in ALONE + BEATS + BEYOND:
            for word, (tell, judge) in OF_A_NUMBER.items():
                question = (word, "a")
                try:
                    wanted = tell(number)
                except TooMany as wrong:
                    told = check_state(self, TooMany, answer_to, question, [number])
                    self.assertEqual((told.what, told.limit), (wrong.what, wrong.limit))
                    continue
                check_call(self, answer_to, (question, [number]), wanted)
                self.assertEqual(answer_to(question, (number,)), wanted)
                check_call(self, is_answer, (question, [number], wanted), True)
                check_call(self, statement_of, (question, wanted), "yes" if wanted[0] in ["machine", "hub"] else "no")
                self.assertIs(judge(number, wanted), True)

    def test_as_the_judges_say(self):
        values = [tell(number) for number in ALONE[:6] + BEATS[:3] + BEYOND[:4] for tell, _ in OF_A_NUMBER.values()]
        values += [("beats", 2), ("beats", 3), ("ring", (1, 1)), ("ring", (3, 1)), ("hub", ((2, 2),)), ("second", (0, 1), (1, 1)), None, (), "ring",
                   ("along", ((1,),)), ("between", (1, 1)), ["beats", 2], ("machine", None, None), ("yes",), 5]
        for number in ALONE[:6] + BEATS[:3] + BEYOND[:4]:
            for word, (_, judge) in OF_A_NUMBER.items():
                for value in values:
                    check_call(self, is_answer, ((word, "a"), [number], value), judge(number, value))

    def test_too_many(self):
        number = ("number", TOO_LONG[0], 0)
        self.assertEqual(check_state(self, TooMany, answer_to, ("hub", "a"), [number]).what, "lengths")
        self.assertEqual(check_state(self, TooMany, answer_to, ("pace", "a"), [("number", (6994, -369, -19, 1), 0)]).what, "cuts")


class OfTables(unittest.TestCase):
    def pairs(self):
        """Pairs of tables with equal and with unlike paces."""
        return pairs_alike(142, 6) + [(ring_of([1, 1]), ((2,),)), (((2,),), ring_of([1, 1])), (((999,),), ((998,),)), (((1,),), ((0, 1), (1, 0)))]

    def test_answers(self):
        for one, other in self.pairs():
            compared = paces_compared(one, other)
            frame = along(one, other)
            wanted = ("between", ratio_between(one, other)) if frame is None else ("along", frame)
            check_call(self, answer_to, (("along", "a", "b"), [one, other]), wanted)
            self.assertEqual(statement_of(("along", "a", "b"), wanted), "yes" if compared == 0 else "no")
            self.assertIs(is_answer(("along", "a", "b"), [one, other], wanted), True)
            frame = not_behind(one, other)
            wanted = ("between", ratio_between(one, other)) if frame is None else ("behind", frame)
            check_call(self, answer_to, (("behind", "a", "b"), [one, other]), wanted)
            self.assertEqual(statement_of(("behind", "a", "b"), wanted), "yes" if compared < 1 else "no")
            self.assertIs(is_answer(("behind", "a", "b"), [one, other], wanted), True)

    def test_as_the_judges_say(self):
        for one, other in self.pairs():
            for frame in [along(one, other), not_behind(one, other), ((1,),), ((0,),), ((1,), (1,)), ((1, 1),), None, 5, ()]:
                for things in [[one, other], (one, other)]:
                    self.assertIs(is_answer(("along", "a", "b"), things, ("along", frame)), is_along(one, other, frame))
                    self.assertIs(is_answer(("behind", "a", "b"), things, ("behind", frame)), is_not_behind(one, other, frame))
                    self.assertIs(is_answer(("along", "a", "b"), things, ("behind", frame)), False)
                    self.assertIs(is_answer(("behind", "a", "b"), things, ("along", frame)), False)
            for ratio in [ratio_between(one, other), (3, 2), (17, 10), (1997, 2), (1, 1), None, 5, (2, 4), [3, 2]]:
                between = is_between(one, other, ratio)
                check_call(self, is_answer, (("along", "a", "b"), [one, other], ("between", ratio)), between)
                check_call(self, is_answer, (("behind", "a", "b"), [one, other], ("between", ratio)),
                           between and paces_compared(one, other) == 1)

    def test_other_values(self):
        for word in ["along", "behind"]:
            for value in [None, 0, (), [], {}, object(), word, (word,), ("between",), ((1,),), ("between", (5, 2), 1), [word, ((1,),)], ["between", (5, 2)],
                          (word, ((1,),), 1), ("Between", (5, 2)), (None, (5, 2)), (b"between", (5, 2)), ("machine", ((1,),)), ("ring", (5, 2)), ("yes", (5, 2))]:
                self.assertIs(is_answer((word, "a", "b"), [((3,),), ((2,),)], value), False)
            self.assertIs(is_answer((word, "a", "b"), [((3,),), ((2,),)], ("between", (5, 2))), True)
        self.assertIs(is_answer(("behind", "a", "b"), [((2,),), ((3,),)], ("between", (5, 2))), False)
        self.assertIs(is_answer(("along", "a", "b"), [((2,),), ((3,),)], ("between", (5, 2))), True)

    def test_errors_whatever_the_value_is(self):
        wide, great, apart = ((1,) * 7,) * 7, ((1000,),), ((1, 0), (0, 1))
        for word in ["along", "behind"]:
            question = (word, "a", "b")
            for things, error, told in [([apart, wide], NotTogether, None), ([((1,),), apart], NotTogether, None), ([wide, great], TooMany, ("places", 6)),
                                        ([great, ((1,),)], TooMany, ("size", 999)), ([((1,),), wide], TooMany, ("places", 6))]:
                calls = [(answer_to, question, things)]
                calls += [(is_answer, question, things, value) for value in [None, 5, (), (word, ((1,),)), ("between", (5, 2)), ("x", 1)]]
                for call in calls:
                    found = check_state(self, error, *call)
                    if told is not None:
                        self.assertEqual((found.what, found.limit), told)


class Wrong(unittest.TestCase):
    def test_no_questions(self):
        for value in NO_QUESTIONS:
            check_refused(self, InvalidQuestion, value, answer_to, value, [((1,),), ((1,),)])
            check_refused(self, InvalidQuestion, value, is_answer, value, [((1,),), ((1,),)], ("beats", 2))
            check_refused(self, InvalidQuestion, value, statement_of, value, ("beats", 2))

    def test_statements(self):
        for word in ["pace", "beatless"]:
            for value, told in [(("machine", GOLDEN, (((0, 1), 3),)), "yes"), (("ring", (1, 1)), "no"), (("beats", 2), "no")]:
                check_call(self, statement_of, ((word, "a"), value), told)
        for word in ["hub", "beatlesshub"]:
            for value, told in [(("hub", ((1, 1),)), "yes"), (("ring", (1, 1)), "no"), (("beats", 2), "no"), (("second", (0, 1), (1, 1)), "no")]:
                check_call(self, statement_of, ((word, "a"), value), told)
        for word in ["along", "behind"]:
            check_call(self, statement_of, ((word, "a", "b"), (word, ((1,),))), "yes")
            check_call(self, statement_of, ((word, "a", "b"), ("between", (5, 2))), "no")


if __name__ == "__main__":
    unittest.main()
