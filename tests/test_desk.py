"""A desk [141] to [147]."""

import random
import unittest

from helpers import check_state, kinds_of
from sometexts import GOLDEN
from test_commands import NO_COMMANDS, NO_NAMES

from whichpaces.builds import hubs_joined, in_turn, lengthened, many_ties, side_by_side, turned_about
from whichpaces.commands import answer_to, is_answer, is_thing, statement_of
from whichpaces.desk import Desk
from whichpaces.errors import BadText, CommandFailed, InvalidCommand, InvalidMany, InvalidText, LimitError, MissingError, NoHub
from whichpaces.errors import NoMachine, NothingToRedo, NothingToUndo, NotTogether, PaceError, StateError, TakenName, TakenNote
from whichpaces.errors import TooMany, UnfitAnswer, UnfitSort, UnfitThing, UnknownName, UnknownNote
from whichpaces.hubs import hub_for, hub_machine
from whichpaces.making import machine_for
from whichpaces.numbersums import number_power, number_product, number_root, number_sum
from whichpaces.paces import pace
from whichpaces.tables import machine_of, table_of

GOLD, ROOT, GREATER = ("number", (-1, -1, 1), 0), ("number", (-2, 0, 1), 0), ("number", (1, -3, 1), 0)
NEAR, FAR, FIB, TWO = ((2, 1), (1, 1)), ((1, 1), (1, 2)), ((1, 1), (1, 0)), ((2,),)
APART = ((1, 0), (0, 1))
THIRD = ((1, 1), (2, 1))
THINGS = [
    ("new", "gold", "number", GOLD), ("new", "root", "number", ROOT), ("new", "great", "number", GREATER), ("new", "near", "table", NEAR),
    ("new", "far", "table", FAR), ("new", "fib", "table", FIB), ("new", "two", "table", TWO), ("new", "apart", "table", APART),
    ("new", "mach", "machine", GOLDEN), ("new", "hubs", "rounds", ((1, 1), (2, 1))), ("new", "ties", "table", THIRD),
]
BUILDS = [
    ("side_by_side", ["near", "two"], side_by_side), ("in_turn", ["near", "fib"], in_turn), ("hubs_joined", ["hubs", "hubs"], hubs_joined),
    ("number_sum", ["gold", "root"], number_sum), ("number_product", ["gold", "gold"], number_product), ("machine_of", ["near"], machine_of),
    ("table_of", ["mach"], table_of), ("turned_about", ["mach"], turned_about), ("pace", ["mach"], pace), ("hub_machine", ["hubs"], hub_machine),
    ("machine_for", ["gold"], machine_for), ("hub_for", ["gold"], hub_for),
]
BUILDS_WITH = [("many_ties", "near", 3, many_ties), ("lengthened", "mach", 12, lengthened), ("number_power", "gold", 5, number_power),
               ("number_root", "root", 3, number_root)]
OWN_ERRORS = (PaceError, MissingError, StateError, LimitError)


def with_things():
    """A desk with a thing of each kind."""
    desk = Desk()
    desk.do_all(THINGS)
    return desk


def told(desk):
    """All that a desk tells, but for what can be redone."""
    names, labels = desk.names, desk.labels
    things = [(desk.thing(name), desk.sort_of(name), desk.name_status(name)) for name in names]
    notes = [(desk.note(label), desk.statement(label), desk.note_status(label)) for label in labels]
    return names, labels, desk.log, desk.sums, things, notes


def redone(desk):
    """What a desk tells behind each redo, and then behind as many undos: the desk is as it was."""
    found = [told(desk)]
    while True:
        try:
            desk.do(("redo",))
        except NothingToRedo:
            break
        found.append(told(desk))
    for _ in found[1:]:
        desk.do(("undo",))
    return found


class OnADesk(unittest.TestCase):
    def check_fails(self, desk, error, command, **attributes):
        """The command raises this error, and nothing changes, nor what can be undone and redone."""
        before = redone(desk)
        found = check_state(self, error, desk.do, command)
        self.assertEqual({name: getattr(found, name) for name in attributes}, attributes)
        self.assertEqual({name: kinds_of(getattr(found, name)) for name in attributes}, {name: kinds_of(value) for name, value in attributes.items()})
        self.assertEqual(redone(desk), before)
        with self.assertRaises(CommandFailed) as caught:
            desk.do_all([command])
        self.assertEqual(caught.exception.position, 0)
        self.assertEqual(redone(desk), before)

    def check_sound(self, desk):
        """What [145] and [147] promise of each desk."""
        names, labels, log, sums, things, notes = told(desk)
        self.assertEqual(names, sorted(names))
        self.assertEqual(labels, sorted(labels))
        self.assertEqual(told(Desk.again(log)), told(desk))
        sorts = [sort for _, sort, _ in things]
        said = [statement for _, statement, _ in notes]
        statuses = [status for _, _, status in things + notes]
        self.assertEqual(kinds_of(sums), ("int",) * 7)
        self.assertEqual(sums, tuple([sorts.count(sort) for sort in ["number", "machine", "table", "rounds"]]
                                     + [said.count("yes"), said.count("no"), statuses.count("stale") + statuses.count("lost")]))
        for thing, sort, status in things:
            self.assertIs(is_thing(sort, thing), True)
            self.assertIn(status, ["own", "fresh", "stale", "lost"])
        for (question, answer), statement, status in notes:
            self.assertEqual(statement_of(question, answer), statement)
            self.assertIn(status, ["fresh", "stale", "lost"])
            if status == "fresh":
                self.assertIs(is_answer(question, [desk.thing(name) for name in question[1:]], answer), True)


class Empty(OnADesk):
    def test_an_empty_desk(self):
        desk = Desk()
        self.assertEqual(told(desk), ([], [], [], (0,) * 7, [], []))
        self.check_fails(desk, NothingToUndo, ("undo",))
        self.check_fails(desk, NothingToRedo, ("redo",))
        self.assertEqual(desk.do_all([]), [])
        self.assertEqual(desk.do_all(()), [])
        self.check_sound(desk)
        self.assertEqual(told(Desk.again([])), told(desk))

    def test_desks_share_nothing(self):
        one, other = Desk(), Desk()
        one.do(THINGS[0])
        self.assertEqual(told(other), ([], [], [], (0,) * 7, [], []))

    def test_no_commands(self):
        desk = with_things()
        before = told(desk)
        for value in NO_COMMANDS:
            found = check_state(self, InvalidCommand, desk.do, value)
            self.assertIs(found.value, value)
            with self.assertRaises(CommandFailed) as caught:
                desk.do_all([("drop", "two"), value])
            self.assertEqual(caught.exception.position, 1)
        self.assertEqual(told(desk), before)

    def test_by_the_names_of_the_interface(self):
        desk = Desk.again(commands=THINGS)
        self.assertEqual(desk.do(command=("drop", "two")), TWO)
        self.assertEqual(desk.do_all(commands=[("note", "n", ("pace", "gold"))]), ["yes"])
        self.assertEqual([desk.thing(name="gold"), desk.sort_of(name="gold"), desk.name_status(name="gold")], [GOLD, "number", "own"])
        self.assertEqual([desk.note(label="n")[0], desk.statement(label="n"), desk.note_status(label="n")], [("pace", "gold"), "yes", "fresh"])
        self.assertEqual(type(desk.note("n")), tuple)

    def test_names_that_are_not_there(self):
        desk = with_things()
        desk.do(("note", "said", ("pace", "gold")))
        for value in NO_NAMES + ["x", "said", "golds", ("gold",)]:
            for method in [desk.thing, desk.sort_of, desk.name_status]:
                found = check_state(self, UnknownName, method, value)
                self.assertIs(found.name, value)
        for value in NO_NAMES + ["x", "gold", ("said",)]:
            for method in [desk.note, desk.statement, desk.note_status]:
                found = check_state(self, UnknownNote, method, value)
                self.assertIs(found.label, value)


class Things(OnADesk):
    def test_new_and_drop(self):
        desk = Desk()
        for command in THINGS:
            self.assertEqual(desk.do(command), command[3])
            self.assertEqual((desk.thing(command[1]), desk.sort_of(command[1]), desk.name_status(command[1])), (command[3], command[2], "own"))
        self.assertEqual(desk.names, sorted([name for _, name, _, _ in THINGS]))
        self.assertEqual(desk.log, THINGS)
        self.assertEqual(desk.sums, (3, 1, 6, 1, 0, 0, 0))
        self.check_sound(desk)
        for command in THINGS:
            self.assertEqual(desk.do(("drop", command[1])), command[3])
            self.check_fails(desk, UnknownName, ("drop", command[1]), name=command[1])
        self.assertEqual(desk.names, [])
        self.assertEqual(desk.sums, (0,) * 7)

    def test_new_that_fails(self):
        desk = with_things()
        for sort, thing in [("number", ("number", (-2, 0, 1), 1)), ("number", NEAR), ("machine", NEAR), ("table", GOLDEN), ("table", ((True,),)),
                            ("rounds", ((2, 1), (1, 1))), ("rounds", NEAR), ("table", [[1]]), ("rounds", None), ("number", 2)]:
            self.check_fails(desk, UnfitThing, ("new", "x", sort, thing), value=thing)
            self.check_fails(desk, TakenName, ("new", "gold", sort, thing), name="gold")
        self.check_fails(desk, TakenName, ("new", "gold", "number", GOLD), name="gold")

    def test_read(self):
        desk = Desk()
        for sort, text, thing in [("number", "number -1 -1 1 at 0", GOLD), ("machine", "machine 1\nroad 0 0 1 1\nroad 0 0 2 1\n", GOLDEN),
                                  ("table", "# two\ntable 1\nrow 2", TWO), ("rounds", "rounds\nround 1 1\nround 2 1\n", ((1, 1), (2, 1)))]:
            self.assertEqual(desk.do(("read", sort[:3], sort, text)), thing)
            self.assertEqual((desk.thing(sort[:3]), desk.sort_of(sort[:3]), desk.name_status(sort[:3])), (thing, sort, "own"))
            self.assertEqual(desk.log[-1], ("read", sort[:3], sort, text))
            for other in ["number", "machine", "table", "rounds"]:
                if other != sort:
                    self.check_fails(desk, BadText, ("read", "x", other, text), position=text.index(sort))
            self.check_fails(desk, TakenName, ("read", sort[:3], sort, None), name=sort[:3])
            for value in [None, 5, b"table 1", ["table 1"], ("table 1",)]:
                self.check_fails(desk, InvalidText, ("read", "x", sort, value), value=value)
        self.check_fails(desk, BadText, ("read", "x", "table", "table 1\nrow 1000001"), position=12)
        self.check_sound(desk)


class Built(OnADesk):
    def test_each_way(self):
        for way, names, build in BUILDS:
            desk = with_things()
            thing = build(*[desk.thing(name) for name in names])
            self.assertEqual(desk.do(("build", "new", way) + tuple(names)), thing)
            self.check_built(desk, thing)
        for way, name, many, build in BUILDS_WITH:
            desk = with_things()
            thing = build(desk.thing(name), many)
            self.assertEqual(desk.do(("build", "new", way, name, many)), thing)
            self.check_built(desk, thing)
            for value in [None, True, 0, -1, 13, "a", "gold", (1,), [], 10 ** 30]:
                if not (way == "lengthened" and value == 12):
                    self.check_fails(desk, InvalidMany, ("build", "x", way, name, value), value=value)

    def check_built(self, desk, thing):
        """The thing "new" was built."""
        self.assertEqual(desk.thing("new"), thing)
        self.assertEqual(desk.name_status("new"), "fresh")
        self.assertIs(is_thing(desk.sort_of("new"), thing), True)
        sorts = {"number": "number", "machine": "machine"}
        if thing[0] in sorts:
            self.assertEqual(desk.sort_of("new"), sorts[thing[0]])
        elif desk.log[-1][2] in ["hubs_joined", "hub_for"]:
            self.assertEqual(desk.sort_of("new"), "rounds")
        else:
            self.assertEqual(desk.sort_of("new"), "table")
        self.check_sound(desk)

    def test_sequence_of_the_errors(self):
        desk = with_things()
        two, one = ["side_by_side", "in_turn"], ["hubs_joined"]
        for way in two + one + ["number_sum", "number_product"]:
            self.check_fails(desk, TakenName, ("build", "gold", way, "no", "none"), name="gold")
            self.check_fails(desk, UnknownName, ("build", "x", way, "no", "none"), name="no")
            self.check_fails(desk, UnknownName, ("build", "x", way, "mach", "none"), name="none")
            self.check_fails(desk, UnknownName, ("build", "x", way, "none", "mach"), name="none")
            self.check_fails(desk, UnknownName, ("build", "x", way, "x", "x"), name="x")
            self.check_fails(desk, UnfitSort, ("build", "x", way, "mach", "mach"), name="mach")
        self.check_fails(desk, UnfitSort, ("build", "x", "side_by_side", "near", "hubs"), name="hubs")
        self.check_fails(desk, UnfitSort, ("build", "x", "side_by_side", "hubs", "gold"), name="hubs")
        # The table of the same tuple is no ROUNDS.
        self.check_fails(desk, UnfitSort, ("build", "x", "hubs_joined", "hubs", "ties"), name="ties")
        self.check_fails(desk, UnfitSort, ("build", "x", "hub_machine", "ties"), name="ties")
        self.check_fails(desk, UnfitSort, ("build", "x", "machine_of", "hubs"), name="hubs")
        for way, sort_there in [("many_ties", "gold"), ("lengthened", "near"), ("number_power", "near"), ("number_root", "mach")]:
            self.check_fails(desk, TakenName, ("build", "gold", way, "no", None), name="gold")
            self.check_fails(desk, UnknownName, ("build", "x", way, "no", None), name="no")
            self.check_fails(desk, UnfitSort, ("build", "x", way, sort_there, None), name=sort_there)
        for way, sort_there in [("machine_of", "gold"), ("table_of", "near"), ("turned_about", "near"), ("pace", "near"), ("hub_machine", "mach"),
                                ("machine_for", "near"), ("hub_for", "hubs")]:
            self.check_fails(desk, TakenName, ("build", "gold", way, "no"), name="gold")
            self.check_fails(desk, UnknownName, ("build", "x", way, "no"), name="no")
            self.check_fails(desk, UnfitSort, ("build", "x", way, sort_there), name=sort_there)

    def test_what_builds_may_fail(self):
        desk = with_things()
        desk.do_all([("new", "wide", "table", ((1,) * 7,) * 7), ("new", "tops", "table", ((10 ** 6,),)), ("new", "loose", "machine", ("machine", 2, ())),
                     ("new", "less", "number", ("number", (2, -4, 1), 1)), ("new", "six", "number", ("number", (-1, -1, 0, 0, 0, 0, 1), 0))])
        self.check_fails(desk, TooMany, ("build", "x", "side_by_side", "wide", "near"), what="places", limit=12)
        self.check_fails(desk, TooMany, ("build", "x", "in_turn", "tops", "near"), what="size", limit=1000000)
        self.check_fails(desk, TooMany, ("build", "x", "many_ties", "tops", 2), what="size", limit=1000000)
        self.check_fails(desk, NotTogether, ("build", "x", "pace", "loose"))
        self.check_fails(desk, NoMachine, ("build", "x", "machine_for", "less"))
        self.check_fails(desk, NoHub, ("build", "x", "hub_for", "great"))
        self.check_fails(desk, TooMany, ("build", "x", "number_sum", "six", "gold"), what="degree", limit=6)
        self.check_fails(desk, TooMany, ("build", "x", "number_root", "six", 3), what="degree", limit=12)

    def test_statuses(self):
        desk = with_things()
        desk.do(("build", "sum", "in_turn", "near", "two"))
        desk.do(("build", "more", "many_ties", "sum", 2))
        status = [desk.name_status("sum"), desk.name_status("more")]
        self.assertEqual(status, ["fresh", "fresh"])
        for commands, first, second in [
                ([("drop", "near")], "lost", "fresh"), ([("drop", "two")], "lost", "fresh"), ([("drop", "near"), ("new", "near", "table", NEAR)], "fresh", "fresh"),
                ([("drop", "near"), ("new", "near", "table", FAR)], "stale", "fresh"), ([("drop", "near"), ("drop", "two"), ("new", "near", "table", FAR)], "lost", "fresh"),
                ([("drop", "near"), ("new", "near", "number", GOLD)], "stale", "fresh"), ([("drop", "two"), ("read", "two", "table", "table 1\nrow 2")], "fresh", "fresh"),
                ([("drop", "near"), ("drop", "two"), ("new", "near", "table", TWO), ("new", "two", "table", NEAR)], "stale", "fresh"),
                ([("drop", "near"), ("drop", "two"), ("new", "near", "table", NEAR), ("new", "two", "table", TWO)], "fresh", "fresh"),
                ([("drop", "near"), ("build", "near", "many_ties", "fib", 2)], "fresh", "fresh"), ([("drop", "near"), ("build", "near", "many_ties", "fib", 3)], "stale", "fresh")]:
            desk.do_all(commands)
            self.assertEqual([desk.name_status("sum"), desk.name_status("more")], [first, second], commands)
            self.assertEqual(desk.thing("sum"), in_turn(NEAR, TWO))
            self.check_sound(desk)
            for _ in commands:
                desk.do(("undo",))
            self.assertEqual([desk.name_status("sum"), desk.name_status("more")], status)
        desk.do(("drop", "sum"))
        self.assertEqual(desk.name_status("more"), "lost")
        desk.do(("new", "sum", "table", in_turn(NEAR, TWO)))
        self.assertEqual([desk.name_status("sum"), desk.name_status("more")], ["own", "fresh"])

    def test_of_another_sort_though_alike(self):
        # 1 1 / 2 1 is a table, and rounds.
        desk = Desk()
        desk.do_all([("new", "a", "table", THIRD), ("build", "b", "machine_of", "a"), ("build", "c", "side_by_side", "a", "a"), ("drop", "a"), ("new", "a", "rounds", THIRD)])
        self.assertEqual([desk.name_status("b"), desk.name_status("c")], ["stale", "stale"])
        self.assertEqual(desk.sums, (0, 1, 1, 1, 0, 0, 2))
        desk.do_all([("drop", "a"), ("new", "a", "table", THIRD)])
        self.assertEqual([desk.name_status("b"), desk.name_status("c")], ["fresh", "fresh"])
        self.check_sound(desk)

    def test_built_anew_in_a_ring(self):
        desk = Desk()
        desk.do_all([("new", "a", "table", NEAR), ("build", "b", "many_ties", "a", 1), ("drop", "a"), ("build", "a", "many_ties", "b", 1)])
        self.assertEqual([desk.name_status("a"), desk.name_status("b")], ["fresh", "fresh"])
        desk.do(("drop", "b"))
        self.assertEqual(desk.name_status("a"), "lost")
        desk.do(("build", "b", "many_ties", "a", 2))
        self.assertEqual([desk.name_status("a"), desk.name_status("b")], ["stale", "fresh"])
        self.check_sound(desk)


class Notes(OnADesk):
    QUESTIONS = [
        (("pace", "gold"), "yes"), (("beatless", "gold"), "yes"), (("beatless", "root"), "no"), (("hub", "gold"), "yes"), (("hub", "great"), "no"),
        (("beatlesshub", "root"), "no"), (("along", "near", "far"), "yes"), (("along", "near", "near"), "yes"), (("along", "near", "fib"), "no"),
        (("behind", "fib", "two"), "yes"), (("behind", "two", "fib"), "no"), (("behind", "near", "far"), "yes"),
    ]

    def test_note_ask_and_forget(self):
        desk = with_things()
        for at, (question, statement) in enumerate(self.QUESTIONS):
            before = told(desk)
            answer = desk.do(("ask", question))
            self.assertEqual(told(desk), before)
            self.assertEqual(answer, answer_to(question, [desk.thing(name) for name in question[1:]]))
            label = "n" + str(at)
            self.assertEqual(desk.do(("note", label, question)), statement)
            self.assertEqual(desk.note(label), (question, answer))
            self.assertEqual((desk.statement(label), desk.note_status(label)), (statement, "fresh"))
            self.check_fails(desk, TakenNote, ("note", label, ("pace", "no")), label=label)
            self.check_fails(desk, TakenNote, ("attach", label, ("pace", "no"), None), label=label)
        self.assertEqual(desk.sums, (3, 1, 6, 1, 7, 5, 0))
        self.check_sound(desk)
        for at, (question, _) in enumerate(self.QUESTIONS):
            answer = desk.note("n" + str(at))[1]
            self.assertEqual(desk.do(("forget", "n" + str(at))), answer)
            self.check_fails(desk, UnknownNote, ("forget", "n" + str(at)), label="n" + str(at))
            self.check_fails(desk, UnknownNote, ("renew", "n" + str(at)), label="n" + str(at))
        self.assertEqual(desk.labels, [])

    def test_labels_and_names_are_apart(self):
        desk = with_things()
        desk.do(("note", "gold", ("pace", "gold")))
        self.check_fails(desk, UnknownName, ("drop", "note"), name="note")
        self.check_fails(desk, UnknownNote, ("forget", "root"), label="root")
        desk.do(("drop", "gold"))
        self.assertEqual(desk.labels, ["gold"])
        self.assertEqual(desk.note_status("gold"), "lost")
        desk.do(("new", "gold", "number", GOLD))
        desk.do(("forget", "gold"))
        self.assertEqual(desk.thing("gold"), GOLD)

    def test_attach(self):
        desk = with_things()
        golden = ("machine", GOLDEN, (((0, 1), 3),))
        for label, question, answer, statement in [
                ("a", ("pace", "gold"), golden, "yes"), ("b", ("beatless", "root"), ("beats", 2), "no"), ("c", ("hub", "great"), ("second", (0, 1), (1, 1)), "no"),
                ("d", ("beatlesshub", "gold"), ("hub", ((1, 1), (2, 1))), "yes"), ("e", ("along", "near", "far"), ("along", ((1, 2), (1, 1))), "yes"),
                ("f", ("behind", "fib", "two"), ("behind", ((1,), (1,))), "yes"), ("g", ("along", "fib", "two"), ("between", (17, 10)), "no"),
                ("h", ("behind", "two", "fib"), ("between", (17, 10)), "no")]:
            self.assertEqual(desk.do(("attach", label, question, answer)), statement)
            self.assertEqual((desk.note(label), desk.statement(label), desk.note_status(label)), ((question, answer), statement, "fresh"))
        self.check_sound(desk)
        for question, answer in [
                (("pace", "root"), golden), (("pace", "gold"), ["machine"]), (("pace", "gold"), None), (("beatless", "gold"), ("beats", 2)), (("pace", "root"), ("beats", 2)),
                (("hub", "gold"), golden), (("pace", "gold"), ("hub", ((1, 1), (2, 1)))), (("along", "near", "far"), ("along", ((1, 1), (1, 1)))),
                (("along", "near", "far"), ("between", (5, 2))), (("behind", "fib", "two"), ("between", (17, 10))), (("behind", "fib", "two"), ("along", ((1,), (1,)))),
                (("along", "near", "far"), ("behind", ((1, 2), (1, 1)))), (("along", "near", "far"), 5), (("hub", "gold"), ("yes",))]:
            self.check_fails(desk, UnfitAnswer, ("attach", "x", question, answer), value=answer)
            self.check_fails(desk, TakenNote, ("attach", "a", question, answer), label="a")

    def test_sequence_of_the_errors(self):
        desk = with_things()
        desk.do(("note", "said", ("pace", "gold")))
        for word, more in [("note", ()), ("attach", (None,))]:
            self.check_fails(desk, TakenNote, (word, "said", ("along", "no", "gold")) + more, label="said")
            self.check_fails(desk, UnknownName, (word, "x", ("along", "no", "none")) + more, name="no")
            self.check_fails(desk, UnknownName, (word, "x", ("along", "gold", "none")) + more, name="none")
            self.check_fails(desk, UnfitSort, (word, "x", ("along", "gold", "mach")) + more, name="gold")
            self.check_fails(desk, UnfitSort, (word, "x", ("behind", "apart", "hubs")) + more, name="hubs")
            self.check_fails(desk, UnfitSort, (word, "x", ("hub", "near")) + more, name="near")
            self.check_fails(desk, NotTogether, (word, "x", ("along", "near", "apart")) + more)
        self.check_fails(desk, UnknownName, ("ask", ("along", "no", "none")), name="no")
        self.check_fails(desk, UnfitSort, ("ask", ("pace", "near")), name="near")
        self.check_fails(desk, NotTogether, ("ask", ("behind", "apart", "near")))
        desk.do(("new", "wide", "table", ((1,) * 7,) * 7))
        self.check_fails(desk, TooMany, ("ask", ("behind", "wide", "near")), what="places", limit=6)
        self.check_fails(desk, TooMany, ("attach", "x", ("behind", "wide", "near"), None), what="places", limit=6)
        desk.do(("new", "long", "number", ("number", (-1729, 24, -2, 1), 0)))
        self.check_fails(desk, TooMany, ("note", "x", ("hub", "long")), what="lengths", limit=400)

    def test_statuses_and_renew(self):
        desk = with_things()
        desk.do_all([("note", "n", ("along", "near", "far")), ("note", "m", ("pace", "gold"))])
        answer = desk.note("n")[1]
        desk.do(("drop", "far"))
        self.assertEqual([desk.note_status("n"), desk.statement("n"), desk.sums[4:]], ["lost", "yes", (2, 0, 1)])
        self.check_fails(desk, UnknownName, ("renew", "n"), name="far")
        desk.do(("new", "far", "number", GOLD))
        self.assertEqual(desk.note_status("n"), "stale")
        self.check_fails(desk, UnfitSort, ("renew", "n"), name="far")
        desk.do_all([("drop", "far"), ("new", "far", "table", APART)])
        self.check_fails(desk, NotTogether, ("renew", "n"))
        desk.do_all([("drop", "far"), ("new", "far", "table", FIB)])
        self.assertEqual([desk.note_status("n"), desk.note("n")[1], desk.statement("n")], ["stale", answer, "yes"])
        self.check_sound(desk)
        self.assertEqual(desk.do(("renew", "n")), "no")
        self.assertEqual([desk.note_status("n"), desk.statement("n"), desk.note("n")[1][0], desk.sums[4:]], ["fresh", "no", "between", (1, 1, 0)])
        self.check_sound(desk)
        desk.do_all([("drop", "far"), ("new", "far", "table", FAR)])
        self.assertEqual(desk.note_status("n"), "stale")
        self.assertEqual(desk.do(("renew", "n")), "yes")
        self.assertEqual(desk.note("n")[1], answer)
        self.assertEqual(desk.do(("undo",)), ("renew", "n"))
        self.assertEqual([desk.note_status("n"), desk.statement("n")], ["stale", "no"])
        self.assertEqual(desk.do(("redo",)), ("renew", "n"))
        self.assertEqual([desk.note_status("n"), desk.statement("n")], ["fresh", "yes"])
        self.assertEqual(desk.do(("renew", "m")), "yes")
        self.check_sound(desk)

    def test_renew_answers_again(self):
        desk = with_things()
        other = ("machine", GOLDEN, (((0, 1), 3),))
        desk.do(("attach", "n", ("pace", "gold"), other))
        self.assertEqual(desk.note("n")[1], other)
        desk.do(("renew", "n"))
        self.assertEqual(desk.note("n")[1], answer_to(("pace", "gold"), [GOLD]))
        self.check_sound(desk)


class Bounds(OnADesk):
    def test_twenty_things(self):
        desk = Desk()
        for at in range(20):
            desk.do(("new", "t" + str(at), "table", ((at,),)))
        self.check_fails(desk, TooMany, ("new", "x", "table", TWO), what="things", limit=20)
        self.check_fails(desk, TooMany, ("read", "x", "table", "table 1\nrow 1"), what="things", limit=20)
        self.check_fails(desk, TooMany, ("build", "x", "in_turn", "t1", "t2"), what="things", limit=20)
        self.check_fails(desk, TakenName, ("new", "t1", "table", None), name="t1")
        self.check_fails(desk, UnfitThing, ("new", "x", "table", None), value=None)
        self.check_fails(desk, BadText, ("read", "x", "table", ""), position=0)
        self.check_fails(desk, InvalidMany, ("build", "x", "many_ties", "t1", 7), value=7)
        self.assertEqual(desk.do(("note", "n", ("along", "t1", "t1"))), "yes")
        desk.do(("drop", "t0"))
        desk.do(("build", "t0", "in_turn", "t1", "t2"))
        self.check_fails(desk, TooMany, ("new", "x", "table", TWO), what="things", limit=20)
        self.check_sound(desk)

    def test_twenty_notes(self):
        desk = Desk()
        desk.do(("new", "g", "number", GOLD))
        for at in range(20):
            desk.do(("note", "n" + str(at), ("hub", "g")))
        self.check_fails(desk, TooMany, ("note", "x", ("hub", "g")), what="notes", limit=20)
        self.check_fails(desk, TooMany, ("attach", "x", ("hub", "g"), ("hub", ((1, 1), (2, 1)))), what="notes", limit=20)
        self.check_fails(desk, UnfitAnswer, ("attach", "x", ("hub", "g"), None), value=None)
        self.check_fails(desk, UnknownName, ("note", "x", ("hub", "h")), name="h")
        self.assertEqual(desk.do(("renew", "n0")), "yes")
        desk.do(("forget", "n0"))
        self.assertEqual(desk.do(("note", "x", ("hub", "g"))), "yes")
        self.check_sound(desk)

    def test_sixty_deeds(self):
        desk = Desk()
        for at in range(30):
            desk.do_all([("new", "a", "number", GOLD), ("drop", "a")])
        self.assertEqual(len(desk.log), 60)
        self.check_fails(desk, TooMany, ("new", "a", "number", GOLD), what="deeds", limit=60)
        self.check_fails(desk, UnfitThing, ("new", "a", "number", None), value=None)
        self.check_fails(desk, UnknownName, ("drop", "a"), name="a")
        desk.do(("undo",))
        self.assertEqual(desk.names, ["a"])
        self.assertEqual(desk.do(("ask", ("hub", "a"))), ("hub", ((1, 1), (2, 1))))
        desk.do(("note", "n", ("hub", "a")))
        for command in [("renew", "n"), ("forget", "n"), ("drop", "a"), ("new", "b", "number", GOLD), ("note", "m", ("hub", "a")),
                        ("attach", "m", ("hub", "a"), ("hub", ((1, 1), (2, 1)))), ("build", "b", "number_sum", "a", "a"), ("read", "b", "table", "table 1\nrow 1")]:
            self.check_fails(desk, TooMany, command, what="deeds", limit=60)
        self.check_fails(desk, UnfitAnswer, ("attach", "m", ("hub", "a"), None), value=None)
        self.check_fails(desk, NothingToRedo, ("redo",))
        self.assertEqual(desk.do(("ask", ("hub", "a"))), ("hub", ((1, 1), (2, 1))))
        self.check_sound(desk)

    def test_which_limit_comes_first(self):
        desk = Desk()
        for at in range(20):
            desk.do(("new", "t" + str(at), "number", GOLD))
        for at in range(20):
            desk.do(("note", "n" + str(at), ("hub", "t0")))
        for at in range(20):
            desk.do(("renew", "n" + str(at)))
        self.assertEqual(len(desk.log), 60)
        self.check_fails(desk, TooMany, ("new", "x", "number", GOLD), what="things", limit=20)
        self.check_fails(desk, TooMany, ("note", "x", ("hub", "t0")), what="notes", limit=20)
        self.check_fails(desk, TooMany, ("renew", "n0"), what="deeds", limit=60)
        self.check_fails(desk, TooMany, ("forget", "n0"), what="deeds", limit=60)
        self.check_sound(desk)


class BackAndForth(OnADesk):
    def walk(self):
        """Commands of all deeds, one behind the other."""
        return THINGS[:6] + [
            ("build", "sum", "in_turn", "near", "far"), ("note", "n", ("along", "near", "far")), ("drop", "far"), ("new", "far", "table", FIB), ("renew", "n"),
            ("attach", "m", ("beatless", "root"), ("beats", 2)), ("read", "two", "table", "table 1\nrow 2"), ("forget", "m"), ("build", "more", "many_ties", "sum", 2),
            ("drop", "sum"), ("drop", "gold")]

    def test_to_both_ends(self):
        desk = Desk()
        seen = [told(desk)]
        for command in self.walk():
            desk.do(command)
            seen.append(told(desk))
            self.check_sound(desk)
        for at in reversed(range(len(self.walk()))):
            self.assertEqual(desk.do(("undo",)), self.walk()[at])
            self.assertEqual(told(desk), seen[at])
        check_state(self, NothingToUndo, desk.do, ("undo",))
        for at, command in enumerate(self.walk()):
            self.assertEqual(desk.do(("redo",)), command)
            self.assertEqual(told(desk), seen[at + 1])
        check_state(self, NothingToRedo, desk.do, ("redo",))

    def test_a_deed_behind_undo(self):
        desk = Desk()
        desk.do_all(self.walk())
        for _ in range(3):
            desk.do(("undo",))
        # What is asked or fails ends nothing.
        desk.do(("ask", ("pace", "root")))
        check_state(self, UnknownName, desk.do, ("drop", "x"))
        self.assertEqual(desk.do(("redo",)), self.walk()[-3])
        desk.do(("undo",))
        desk.do(("drop", "two"))
        check_state(self, NothingToRedo, desk.do, ("redo",))
        self.assertEqual(desk.log, self.walk()[:-3] + [("drop", "two")])
        desk.do(("undo",))
        self.assertEqual(desk.do(("redo",)), ("drop", "two"))
        self.check_sound(desk)

    def test_do_all(self):
        desk = Desk()
        self.assertEqual(desk.do_all(THINGS[:2]), [GOLD, ROOT])
        self.assertEqual(desk.do_all(tuple(THINGS[2:4])), [GREATER, NEAR])
        found = desk.do_all([("ask", ("beatless", "root")), ("undo",), ("redo",), ("note", "n", ("beatless", "root")), ("forget", "n"), ("drop", "gold")])
        self.assertEqual(found, [("beats", 2), THINGS[3], THINGS[3], "no", ("beats", 2), GOLD])
        self.check_sound(desk)

    def test_do_all_that_fails_at_each_position(self):
        for undone in [0, 1, 3]:
            for bad in [("drop", "none"), None, ("undo", 1), ("new", "gold", "number", GOLD), ("renew", "z"), ("build", "z", "many_ties", "near", 0),
                        ("attach", "z", ("hub", "great"), ("beats", 3)), ("new", "z", "table", ((True,),)), ("build", "z", "hub_for", "great")]:
                desk = Desk()
                desk.do_all(self.walk()[:12])
                for _ in range(undone):
                    desk.do(("undo",))
                before = redone(desk)
                self.assertEqual(len(before), undone + 1)
                right = [("undo",), ("redo",), ("undo",), ("drop", "root"), ("undo",), ("undo",), ("new", "w", "table", TWO), ("ask", ("pace", "gold"))]
                for position in range(len(right) + 1):
                    commands = right[:position] + [bad] + right[position:]
                    kept = list(commands)
                    with self.assertRaises(CommandFailed) as caught:
                        desk.do_all(commands)
                    self.assertIs(type(caught.exception), CommandFailed)
                    self.assertEqual(caught.exception.position, position)
                    self.assertEqual(commands, kept)
                    self.assertEqual(redone(desk), before)
        desk = Desk()
        with self.assertRaises(CommandFailed) as caught:
            desk.do_all([THINGS[0], ("undo",), ("undo",)])
        self.assertEqual(caught.exception.position, 2)
        self.assertEqual(redone(desk), [([], [], [], (0,) * 7, [], [])])

    def test_returned_lists_are_new(self):
        desk = Desk()
        desk.do_all(self.walk())
        before = told(desk)
        for found in [desk.names, desk.labels, desk.log, desk.do_all([])]:
            self.assertIs(type(found), list)
            found.append("more")
            found.reverse()
        log = desk.log
        again = Desk.again(log)
        log.clear()
        self.assertEqual(told(desk), before)
        self.assertEqual(told(again), before)
        self.assertIs(type(desk.sums), tuple)

    def test_drawn_walks(self):
        chance = random.Random(147)
        names, labels = ["a", "b", "c", "d"], ["n", "m"]
        things = [("table", NEAR), ("table", FAR), ("table", FIB), ("table", TWO), ("table", APART), ("number", GOLD), ("number", ROOT), ("number", GREATER),
                  ("machine", GOLDEN), ("rounds", THIRD), ("table", THIRD)]
        ways = [("side_by_side", 2), ("in_turn", 2), ("hubs_joined", 2), ("number_sum", 2), ("many_ties", 1), ("lengthened", 1), ("number_power", 1),
                ("machine_of", 0), ("table_of", 0), ("turned_about", 0), ("pace", 0), ("hub_machine", 0), ("machine_for", 0), ("hub_for", 0)]
        done = 0
        for _ in range(25):
            desk, ahead, behind = Desk(), [], []
            for _ in range(60):
                command = self.drawn(chance, names, labels, things, ways)
                before = told(desk)
                try:
                    desk.do(command)
                except OWN_ERRORS:
                    self.assertEqual(told(desk), before)
                    self.assertEqual(command == ("undo",) and ahead == [], command == ("undo",))
                    self.assertEqual(command == ("redo",) and behind == [], command == ("redo",))
                    continue
                done += 1
                if command == ("undo",):
                    behind.append(before)
                    self.assertEqual(told(desk), ahead.pop())
                elif command == ("redo",):
                    ahead.append(before)
                    self.assertEqual(told(desk), behind.pop())
                elif command[0] == "ask":
                    self.assertEqual(told(desk), before)
                else:
                    ahead.append(before)
                    behind = []
                    self.assertEqual(desk.log, before[2] + [command])
            self.check_sound(desk)
        self.assertGreater(done, 400)

    def drawn(self, chance, names, labels, things, ways):
        """A command drawn at random."""
        word = chance.choice(["new", "new", "read", "drop", "build", "build", "build", "note", "note", "attach", "renew", "forget", "ask", "undo", "redo", "undo"])
        name, other, one = [chance.choice(names) for _ in range(3)]
        label = chance.choice(labels)
        question = chance.choice([("pace", name), ("hub", name), ("beatless", name), ("along", name, other), ("behind", name, other)])
        if word == "new":
            return (word, name) + chance.choice(things)
        if word == "read":
            return word, name, "table", chance.choice(["table 1\nrow 2\n", "table 2\nrow 2 1\nrow 1 1\n", "table 1"])
        if word == "build":
            way, more = chance.choice(ways)
            return (word, name, way, other) + ((one,) if more == 2 else (chance.randint(1, 3),) if more == 1 else ())
        if word == "note":
            return word, label, question
        if word == "attach":
            return word, label, question, chance.choice([("beats", 2), ("along", ((1, 2), (1, 1))), ("between", (5, 2)), ("hub", ((1, 1), (2, 1)))])
        if word == "ask":
            return word, question
        if word in ["undo", "redo"]:
            return (word,)
        return word, name if word == "drop" else label


if __name__ == "__main__":
    unittest.main()
