"""The examples of the interface, as they stand there, and the names of its parameters."""

import doctest
import unittest
from importlib import import_module
from inspect import signature

GOLD = ("number", (-1, -1, 1), 0)
GREATER = ("number", (1, -3, 1), 0)
SPLIT = ("machine", 3, ((0, 1, 1, 2), (0, 2, 2, 1), (1, 0, 3, 1), (2, 0, 2, 1)))

# Each function with the names of its parameters, by its file, and a call with what it returns.
CALLS = {
    "basics": [
        ("is_integer", ["value"], [5], True),
        ("is_count", ["value"], [-5], False),
    ],
    "ratios": [
        ("is_ratio", ["value"], [(1, 2)], True),
        ("ratio_made", ["number", "under"], [6, -4], (-3, 2)),
        ("ratio_plus", ["ratio", "other"], [(1, 2), (1, 3)], (5, 6)),
        ("ratio_minus", ["ratio", "other"], [(1, 2), (1, 3)], (1, 6)),
        ("ratio_times", ["ratio", "other"], [(2, 3), (3, 4)], (1, 2)),
        ("ratio_over", ["ratio", "other"], [(1, 2), (-3, 1)], (-1, 6)),
        ("ratio_compared", ["ratio", "other"], [(1, 2), (1, 3)], 1),
        ("ratio_floor", ["ratio"], [(-7, 2)], -4),
    ],
    "polynomials": [
        ("is_polynomial", ["value"], [(1, 2)], True),
        ("poly_plus", ["polynomial", "other"], [(1, 2), (3,)], (4, 2)),
        ("poly_minus", ["polynomial", "other"], [(1, 2), (3,)], (-2, 2)),
        ("poly_times", ["polynomial", "other"], [(1, 2), (3,)], (3, 6)),
        ("poly_worth", ["polynomial", "ratio"], [(1, 2), (1, 4)], (3, 2)),
        ("poly_slope", ["polynomial"], [(1, 2, 3)], (2, 6)),
        ("poly_divided", ["polynomial", "other"], [(1, 2, 3), (0, 1)], ((2, 3), (1,))),
        ("poly_bare", ["polynomial"], [(2, -4)], (-1, 2)),
        ("poly_common", ["polynomial", "other"], [(-1, 0, 1), (1, 1)], (1, 1)),
        ("poly_single", ["polynomial"], [(1, 2, 1)], (1, 1)),
    ],
    "signs": [
        ("sign_changes", ["polynomial"], [(1, -3, 1)], 2),
    ],
    "realroots": [
        ("real_count", ["polynomial"], [(1, -3, 1)], 2),
        ("count_between", ["polynomial", "low", "high"], [(1, -3, 1), (0, 1), (1, 1)], 1),
        ("count_above", ["polynomial", "ratio"], [(1, -3, 1), (1, 1)], 1),
        ("root_floor", ["polynomial", "position", "many"], [(1, -3, 1), 1, 3], 3),
    ],
    "rings": [
        ("ring_count", ["polynomial", "ratio"], [(1, -3, 1), (1, 1)], (1, 0, 1)),
        ("size_floor", ["polynomial", "many"], [(1, -3, 1), 1], 5),
    ],
    "residues": [
        ("residue_degrees", ["polynomial", "many"], [(-1, -1, 0, 1), 5], [1, 2]),
    ],
    "parts": [
        ("parts_of", ["polynomial"], [(1, 2, 1)], [((1, 1), 2)]),
        ("is_least", ["polynomial"], [(1, 2, 1)], False),
    ],
    "numbers": [
        ("is_number", ["value"], [("number", (1, -3, 1), 1)], True),
        ("number_of", ["polynomial", "low", "high"], [(1, -3, 1), (0, 1), (1, 1)], ("number", (1, -3, 1), 1)),
        ("number_floor", ["number", "many"], [GOLD, 3], 12),
        ("number_compared", ["number", "other"], [GOLD, ("number", (-2, 0, 1), 0)], 1),
        ("number_beside", ["number", "ratio"], [GOLD, (13, 8)], -1),
        ("mix_sign", ["number", "mix"], [GOLD, ((-2, 1), 1)], -1),
        ("mix_floor", ["number", "mix", "many"], [GOLD, ((-2, 1), 1), 2], -2),
    ],
    "numbersums": [
        ("number_sum", ["number", "other"], [GOLD, ("number", (-2, 1), 0)], ("number", (5, -5, 1), 0)),
        ("number_product", ["number", "other"], [GOLD, GOLD], ("number", (1, -3, 1), 0)),
        ("number_power", ["number", "many"], [GOLD, 3], ("number", (-1, -4, 1), 0)),
        ("number_root", ["number", "many"], [GOLD, 2], ("number", (-1, 0, -1, 0, 1), 0)),
    ],
    "machines": [
        ("is_machine", ["value"], [SPLIT], True),
        ("ways", ["machine", "one", "many"], [SPLIT, 1, 4], 2),
        ("ways_between", ["machine", "one", "other", "many"], [SPLIT, 1, 2, 5], 1),
        ("is_together", ["machine"], [SPLIT], True),
        ("beat", ["machine"], [SPLIT], 4),
        ("hubs", ["machine"], [SPLIT], [0]),
    ],
    "tables": [
        ("is_table", ["value"], [((1,),)], True),
        ("table_of", ["machine"], [("machine", 1, ((0, 0, 2, 2),))], ((0, 2), (1, 0))),
        ("machine_of", ["table"], [((3,),)], ("machine", 1, ((0, 0, 1, 3),))),
    ],
    "rounds": [
        ("round_polynomial", ["machine"], [SPLIT], (1, 0, 0, 0, -3)),
    ],
    "paces": [
        ("pace", ["machine"], [SPLIT], ("number", (-3, 0, 0, 0, 1), 0)),
    ],
    "weights": [
        ("weights", ["machine", "number"], [SPLIT, GOLD], None),
        ("is_weights", ["machine", "number", "value"], [("machine", 1, ((0, 0, 1, 1), (0, 0, 2, 1))), GOLD, (((0, 1), 3),)],
         True),
    ],
    "cones": [
        ("direction", ["number"], [GREATER], [((-3, 1), 1), ((1, 0), 1)]),
        ("is_cone", ["number", "value"], [GREATER, ((0, 1), (-1, 1))], True),
        ("cone_parts", ["number", "cone"], [GREATER, ((0, 1), (-1, 1))], [((-2, 1), 1), ((3, -1), 1)]),
        ("first_cone", ["number"], [GREATER], ((-1, 0), (0, 1))),
        ("cut_cone", ["number", "cone"], [GREATER, ((-1, 0), (0, 1))], ((0, 1), (-1, 1))),
        ("rows_above", ["number", "cone"], [GREATER, ((-1, 0), (0, 1))], [1]),
        ("good_cone", ["number"], [GREATER], ((0, 1), (-1, 1))),
    ],
    "entering": [
        ("coordinates", ["number", "cone", "row"], [GREATER, ((0, 1), (-1, 1)), (-1, 3)], [2, 1]),
        ("led", ["number", "row", "many"], [GREATER, (0, 1), 1], (-1, 3)),
        ("entering", ["number", "cone", "position"], [GREATER, ((0, 1), (-1, 1)), 1], 1),
    ],
    "dominance": [
        ("common_beat", ["number"], [("number", (-2, 0, 1), 0)], 2),
        ("standing", ["number"], [("number", (-2, 0, 1), 0)], "beats"),
        ("ring_for", ["number"], [("number", (2, -4, 1), 1)], (75, 128)),
    ],
    "making": [
        ("machine_for", ["number"], [("number", (-7, 1), 0)], ("machine", 1, ((0, 0, 1, 7),))),
        ("beatless_machine", ["number"], [("number", (-7, 1), 0)], ("machine", 1, ((0, 0, 1, 7),))),
    ],
    "deciding": [
        ("is_pace", ["number"], [("number", (2, -4, 1), 1)], False),
        ("is_beatless_pace", ["number"], [GREATER], True),
        ("paper_of", ["number"], [("number", (-7, 1), 0)], ("machine", ("machine", 1, ((0, 0, 1, 7),)), (((1,), 1),))),
        ("beatless_paper", ["number"], [("number", (-2, 0, 1), 0)], ("beats", 2)),
        ("is_paper", ["number", "value"], [("number", (2, -4, 1), 1), ("ring", (1, 1))], True),
        ("is_beatless_paper", ["number", "value"], [("number", (-2, 0, 1), 0), ("beats", 2)], True),
    ],
    "multipliers": [
        ("second_roots", ["number"], [GREATER], 1),
        ("multiplier", ["number"], [("number", (-1, 1, -2, 1), 0)], 1),
    ],
    "hubs": [
        ("is_rounds", ["value"], [((1, 1), (2, 1))], True),
        ("hub_machine", ["rounds"], [((2, 1), (3, 1))], ("machine", 1, ((0, 0, 2, 1), (0, 0, 3, 1)))),
        ("is_hub_of", ["number", "value"], [GOLD, ((1, 1), (2, 1))], True),
        ("hub_for", ["number"], [GOLD], ((1, 1), (2, 1))),
        ("beatless_hub", ["number"], [GOLD], ((1, 1), (2, 1))),
    ],
    "hubpapers": [
        ("hub_paper", ["number"], [GOLD], ("hub", ((1, 1), (2, 1)))),
        ("beatless_hub_paper", ["number"], [("number", (-2, 0, 1), 0)], ("beats", 2)),
        ("is_hub_paper", ["number", "value"], [GREATER, ("second", (0, 1), (1, 1))], True),
        ("is_beatless_hub_paper", ["number", "value"], [("number", (-2, 0, 1), 0), ("beats", 2)], True),
    ],
    "along": [
        ("along", ["table", "other"], [((2,),), ((3,),)], None),
        ("is_along", ["table", "other", "value"], [((2, 1), (1, 1)), ((1, 1), (1, 2)), ((1, 2), (1, 1))], True),
        ("not_behind", ["table", "other"], [((3,),), ((2,),)], None),
        ("is_not_behind", ["table", "other", "value"], [((1, 1), (1, 0)), ((2,),), ((1,), (1,))], True),
    ],
    "builds": [
        ("side_by_side", ["table", "other"], [((1, 1), (1, 0)), ((2,),)], ((2, 2), (2, 0))),
        ("in_turn", ["table", "other"], [((1, 1), (1, 0)), ((2,),)], ((3, 1), (1, 2))),
        ("many_ties", ["table", "many"], [((1, 1), (1, 0)), 3], ((3, 2), (2, 1))),
        ("turned_about", ["machine"], [SPLIT], ("machine", 3, ((0, 1, 3, 1), (0, 2, 2, 1), (1, 0, 1, 2), (2, 0, 2, 1)))),
        ("lengthened", ["machine", "many"], [("machine", 1, ((0, 0, 2, 1),)), 3], ("machine", 1, ((0, 0, 6, 1),))),
        ("hubs_joined", ["rounds", "other"], [((1, 1), (2, 1)), ((2, 2),)], ((1, 1), (2, 3))),
        ("lots", ["table"], [((1, 1), (0, 1))], [[0], [1]]),
        ("lot_alone", ["table", "position"], [((1, 0, 1), (0, 5, 0), (2, 0, 0)), 0], ((1, 1), (2, 0))),
    ],
    "texts": [
        ("has_paper_form", ["value"], [("beats", 1)], False),
        ("number_text", ["number"], [GOLD], "number -1 -1 1 at 0\n"),
        ("machine_text", ["machine"], [("machine", 1, ((0, 0, 1, 7),))], "machine 1\nroad 0 0 1 7\n"),
        ("table_text", ["table"], [((1, 1), (1, 0))], "table 2\nrow 1 1\nrow 1 0\n"),
        ("rounds_text", ["rounds"], [((2, 1),)], "rounds\nround 2 1\n"),
        ("paper_text", ["paper"], [("second", (0, 1), (1, 2))], "paper second 0 1/2\n"),
    ],
    "readers": [
        ("read_number", ["text"], ["number -1 -1 1 at 0"], GOLD),
        ("read_machine", ["text"], ["machine 1"], ("machine", 1, ())),
        ("read_table", ["text"], ["table 1\nrow 2\n"], ((2,),)),
        ("read_rounds", ["text"], ["rounds\nround 2 1"], ((2, 1),)),
        ("read_paper", ["text"], ["paper ring 5/2"], ("ring", (5, 2))),
    ],
    "commands": [
        ("is_name", ["value"], ["a1"], True),
        ("is_question", ["value"], [("along", "a", "a")], True),
        ("is_command", ["value"], [("undo",)], True),
        ("is_desk_deed", ["value"], [("undo",)], False),
        ("is_thing", ["sort", "value"], ["rounds", ((1, 1), (2, 1))], True),
        ("answer_to", ["question", "things"], [("hub", "a"), [GOLD]], ("hub", ((1, 1), (2, 1)))),
        ("is_answer", ["question", "things", "value"], [("along", "a", "b"), [((2,),), ((3,),)], ("between", (5, 2))], True),
        ("statement_of", ["question", "value"], [("along", "a", "b"), ("between", (5, 2))], "no"),
    ],
    "between": [
        ("paces_compared", ["table", "other"], [((3,),), ((2,),)], 1),
        ("ratio_between", ["table", "other"], [((2,),), ((2,),)], None),
        ("is_between", ["table", "other", "value"], [((3,),), ((2,),), (5, 2)], True),
    ],
    "mixes": [
        ("is_mix", ["number", "value"], [("number", (-1, -1, 1), 0), ((1, 0), 1)], True),
        ("mix_made", ["number", "row", "under"], [("number", (-1, -1, 1), 0), [0, -2], -4], ((0, 1), 2)),
        ("mix_plus", ["number", "mix", "other"],
         [("number", (-1, -1, 1), 0), ((0, 1), 1), ((1, 0), 2)], ((1, 2), 2)),
        ("mix_minus", ["number", "mix", "other"],
         [("number", (-1, -1, 1), 0), ((0, 1), 1), ((1, 0), 2)], ((-1, 2), 2)),
        ("mix_times", ["number", "mix", "other"],
         [("number", (-1, -1, 1), 0), ((0, 1), 1), ((0, 1), 1)], ((1, 1), 1)),
        ("mix_over", ["number", "mix", "other"],
         [("number", (-1, -1, 1), 0), ((1, 0), 1), ((0, 1), 1)], ((-1, 1), 1)),
        ("power_mix", ["number", "many"], [("number", (-1, -1, 1), 0), 10], ((34, 55), 1)),
    ],
}

# The methods of a desk, with the names of their parameters, and its properties.
METHODS = {
    "do": ["self", "command"], "do_all": ["self", "commands"], "thing": ["self", "name"], "sort_of": ["self", "name"],
    "name_status": ["self", "name"], "note": ["self", "label"], "statement": ["self", "label"], "note_status": ["self", "label"],
    "again": ["commands"],
}
PROPERTIES = ["names", "labels", "log", "sums"]


class Fenced(doctest.DocTestParser):
    """Examples up to a row that ends them in a README."""

    def parse(self, string, name="<string>"):
        return super().parse(string.replace("\n```\n", "\n\n"), name)


def load_tests(loader, tests, pattern):
    """The examples among the tests."""
    tests.addTests(doctest.DocFileSuite("interface_examples.txt"))
    tests.addTests(doctest.DocFileSuite("../README.md", parser=Fenced()))
    return tests


class Names(unittest.TestCase):
    def test_each_function_is_defined_in_its_file(self):
        for file, calls in CALLS.items():
            module = import_module("whichpaces." + file)
            for name, parameters, _, _ in calls:
                function = getattr(module, name)
                self.assertEqual(function.__module__, module.__name__)
                self.assertEqual(list(signature(function).parameters), parameters)

    def test_each_method_is_defined_in_its_class(self):
        made = import_module("whichpaces.desk").Desk
        self.assertEqual((made.__module__, made.__bases__), ("whichpaces.desk", (object,)))
        for name, parameters in METHODS.items():
            self.assertIn(name, vars(made))
            self.assertEqual(list(signature(getattr(made, name)).parameters), parameters)
        for name in PROPERTIES:
            self.assertIsInstance(vars(made)[name], property)
        self.assertIsInstance(vars(made)["again"], staticmethod)
        self.assertEqual(list(signature(made).parameters), [])

    def test_every_file_of_the_interface_is_here(self):
        # All but the desk.
        self.assertEqual(len(CALLS), 30)

    def test_arguments_by_position_and_by_name(self):
        for file, calls in CALLS.items():
            module = import_module("whichpaces." + file)
            for name, parameters, values, expected in calls:
                function = getattr(module, name)
                by_name = dict(list(zip(parameters, values))[::-1])
                self.assertEqual(function(*values), expected, name)
                self.assertEqual(function(**by_name), expected, name)
                self.assertIs(type(function(**by_name)), type(expected), name)


if __name__ == "__main__":
    unittest.main()
