"""Points [1], [2] and [4]: what holds for every function of the package."""

import copy
import importlib
import inspect
import unittest

from helpers import any_values
from keyedmoves.errors import KeyedError

TREE = ("root", (("a", (("b", ()),)), ("c", ())))
OTHER = ("root", (("b", ()), ("d", (("c", ()),))))
STEPS = (("move", "b", "root", "c"), ("create", "d", "root", None), ("move", "c", "d", None), ("remove", "a"))
LAST = ("root", (("d", (("b", ()), ("c", ()))),))
LAST_STEPS = (("move", "b", "d", "c"),)

SEQUENCES = {"first": ("a", "b", "c"), "second": ("b", "a", "c"), "costs": (("b", 5),)}
TREES = {"old": TREE, "new": OTHER}
TURNED = {"old": ("r", (("a", ()), ("b", ()), ("c", ()))), "new": ("r", (("b", ()), ("a", ()), ("c", ())))}
PRICED = {**TURNED, "costs": (("b", 5),)}
FOCUSED = {"focused": ("a",)}
PROOF = ((("move", "b", "r", "a"),), (("r", ((1, ("c",)),)),))

# Each function with its arguments, in the order and by the names of the document.
CALLS = (
    ("trees", "is_key", {"value": "a"}),
    ("trees", "is_tree", {"value": TREE}),
    ("trees", "keys_of", {"tree": TREE}),
    ("trees", "parent_of", {"tree": TREE, "key": "b"}),
    ("trees", "children_of", {"tree": TREE, "key": "a"}),
    ("trees", "subtree", {"tree": TREE, "key": "a"}),
    ("trees", "path_of", {"tree": TREE, "key": "b"}),
    ("trees", "is_inside", {"tree": TREE, "key": "b", "other": "a"}),
    ("operations", "are_operations", {"value": STEPS}),
    ("operations", "run", {"tree": TREE, "operations": STEPS}),
    ("operations", "moments", {"tree": TREE, "operations": STEPS}),
    ("operations", "moved", {"operations": STEPS}),
    ("operations", "cost_of", {"operations": STEPS, "costs": (("b", 5),)}),
    ("operations", "are_costs", {"value": (("b", 5),)}),
    ("patches", "fault", {"old": TREE, "new": OTHER, "operations": STEPS[:3]}),
    ("patches", "is_patch", {"old": TREE, "new": OTHER, "value": STEPS}),
    ("patches", "kept", {"old": TREE, "new": OTHER}),
    ("patches", "created", {"old": TREE, "new": OTHER}),
    ("patches", "removed", {"old": TREE, "new": OTHER}),
    ("patches", "staying", {"old": TREE, "new": OTHER, "operations": STEPS}),
    ("runs", "heaviest_run", SEQUENCES),
    ("runs", "cover_of", SEQUENCES),
    ("runs", "shows_heaviest", {**SEQUENCES, "run": ("b", "c"), "value": ((5, ("a", "b")), (1, ("c",)))}),
    ("runs", "run_count", SEQUENCES),
    ("runs", "run_at", {**SEQUENCES, "number": 0}),
    ("runs", "some_run", SEQUENCES),
    ("runs", "every_run", SEQUENCES),
    ("staying", "steady", TURNED),
    ("staying", "steady_children", {**TURNED, "parent": "r"}),
    ("staying", "cross", {**TURNED, "one": "a", "other": "b"}),
    ("staying", "conflict", {**TURNED, "keys": ("a", "b")}),
    ("staying", "can_stay", {**TURNED, "keys": ("a",)}),
    ("staying", "patch_with", {**TREES, "keys": ()}),
    ("cheapest", "least_cost", {**PRICED, **FOCUSED}),
    ("cheapest", "best_staying", {**PRICED, **FOCUSED}),
    ("cheapest", "cheapest_patch", {**PRICED, **FOCUSED}),
    ("cheapest", "covers", {**PRICED, **FOCUSED}),
    ("cheapest", "shows_cheapest", {**PRICED, "value": PROOF, **FOCUSED}),
    ("choices", "best_count", {**PRICED, **FOCUSED}),
    ("choices", "best_at", {**PRICED, "number": 0, **FOCUSED}),
    ("choices", "some_best", {**PRICED, **FOCUSED}),
    ("choices", "every_best", {**PRICED, **FOCUSED}),
    ("returning", "way_back", {**TREES, "operations": STEPS}),
    ("returning", "joined", {"old": TREE, "middle": OTHER, "new": LAST, "first": STEPS, "second": LAST_STEPS}),
    ("returning", "batched", {"operations": STEPS, "costs": (("b", 5),), "most": 5}),
    ("texts", "show_tree", {"tree": TREE}),
    ("texts", "read_tree", {"text": "root\n  a\n    b\n  c"}),
    ("texts", "show_operations", {"operations": STEPS}),
    ("texts", "read_operations", {"text": "move b root c\nremove a"}),
)

EXPECTED = {
    "is_key": True, "is_tree": True, "keys_of": ("root", "a", "b", "c"), "parent_of": "a", "children_of": ("b",),
    "subtree": ("a", (("b", ()),)), "path_of": ("root", "a", "b"), "is_inside": True, "are_operations": True,
    "run": OTHER, "moved": ("b", "c"), "cost_of": 6, "are_costs": True, "fault": 3, "is_patch": True,
    "kept": ("b", "c"), "created": ("d",), "removed": ("a",), "staying": (),
    "moments": (TREE, ("root", (("a", ()), ("b", ()), ("c", ()))),
                ("root", (("a", ()), ("b", ()), ("c", ()), ("d", ()))),
                ("root", (("a", ()), ("b", ()), ("d", (("c", ()),)))), OTHER),
    "heaviest_run": ("b", "c"), "shows_heaviest": True, "run_count": 1, "run_at": ("b", "c"), "some_run": ("b", "c"),
    "every_run": ("b", "c"), "steady": ("a", "b", "c"), "steady_children": ("a", "b", "c"), "cross": True,
    "conflict": ("a", "b"), "can_stay": True, "least_cost": 5, "best_staying": ("a", "c"),
    "cheapest_patch": (("move", "b", "r", "a"),), "shows_cheapest": True, "best_count": 1, "best_at": ("a", "c"),
    "some_best": ("a", "c"), "every_best": ("a", "c"), "covers": (("r", ((1, ("c",)),)),),
    "patch_with": (("create", "d", "root", None), ("move", "c", "d", None), ("move", "b", "root", "d"),
                   ("remove", "a")),
    # Any cover fits the document; this is the one that the package returns.
    "cover_of": ((1, ("a", "b")), (4, ("b",)), (1, ("c",))),
    "way_back": (("move", "c", "root", None), ("create", "a", "root", "c"), ("move", "b", "a", None), ("remove", "d")),
    "joined": (("create", "d", "root", None), ("move", "c", "d", None), ("move", "b", "d", "c"), ("remove", "a")),
    "batched": (STEPS[:2], STEPS[2:]), "show_tree": "root\n  a\n    b\n  c", "read_tree": TREE,
    "show_operations": "move b root c\ncreate d root -\nmove c d -\nremove a",
    "read_operations": (("move", "b", "root", "c"), ("remove", "a")),
}

# The parameters that may be any value.
ANY_VALUE = (
    ("is_key", "value"), ("is_tree", "value"), ("parent_of", "key"), ("children_of", "key"), ("subtree", "key"),
    ("path_of", "key"), ("is_inside", "key"), ("is_inside", "other"), ("are_operations", "value"),
    ("run", "operations"), ("moments", "operations"), ("are_costs", "value"), ("is_patch", "value"),
    ("shows_heaviest", "run"), ("shows_heaviest", "value"), ("run_at", "number"), ("steady_children", "parent"),
    ("cross", "one"), ("cross", "other"), ("conflict", "keys"), ("can_stay", "keys"), ("patch_with", "keys"),
    ("least_cost", "focused"), ("best_staying", "focused"), ("cheapest_patch", "focused"), ("covers", "focused"),
    ("shows_cheapest", "focused"), ("shows_cheapest", "value"), ("best_count", "focused"), ("best_at", "focused"),
    ("best_at", "number"), ("some_best", "focused"), ("every_best", "focused"), ("way_back", "operations"),
    ("joined", "first"), ("joined", "second"), ("read_tree", "text"), ("read_operations", "text"),
)

# What a value of the wrong kind leads to.
REFUSALS = (False, (), "NoElement", "BadOperations", "NotKept", "NoNumber", "NotPatch", "BadText")


def function_of(module, name):
    return getattr(importlib.import_module("keyedmoves." + module), name)


def outcome(function, arguments):
    """Return what a call returns, or the name and the attributes of the error that it raises."""
    try:
        return function(**arguments)
    except KeyedError as error:
        return error.__class__.__name__, vars(error)


class Conventions(unittest.TestCase):
    def test_by_position_and_by_name(self):
        for module, name, arguments in CALLS:
            function = function_of(module, name)
            named = {key: value for key, value in arguments.items() if key == "focused"}
            placed = [value for key, value in arguments.items() if key != "focused"]
            self.assertEqual(function(*placed, **named), EXPECTED[name], name)
            self.assertEqual(function(**arguments), EXPECTED[name], name)
            backwards = dict(reversed(list(arguments.items())))
            self.assertEqual(function(**backwards), EXPECTED[name], name)

    def test_parameters(self):
        for module, name, arguments in CALLS:
            parameters = inspect.signature(function_of(module, name)).parameters
            self.assertEqual(list(parameters), list(arguments), name)
            for key, parameter in parameters.items():
                by_name = key == "focused"
                self.assertIs(parameter.kind == parameter.KEYWORD_ONLY, by_name, name)
                self.assertEqual(parameter.default, () if by_name else parameter.empty, name)

    def test_plain_kinds_of_values(self):
        for module, name, arguments in CALLS:
            self.check_kinds(function_of(module, name)(**arguments), name)

    def check_kinds(self, value, name):
        self.assertIn(value.__class__, (bool, int, str, tuple, None.__class__), name)
        self.assertIs(value.__class__, EXPECTED[name].__class__ if name in EXPECTED else value.__class__)
        if isinstance(value, tuple):
            for item in value:
                self.check_kinds(item, None)

    def test_equal_calls_return_equal_results(self):
        for module, name, arguments in CALLS * 2:
            self.assertEqual(function_of(module, name)(**arguments), EXPECTED[name], name)

    def test_any_value_is_answered_and_not_modified(self):
        calls = {name: (function_of(module, name), arguments) for module, name, arguments in CALLS}
        for name, parameter in ANY_VALUE:
            function, arguments = calls[name]
            for value in any_values():
                before = copy.deepcopy(value)
                first = outcome(function, {**arguments, parameter: value})
                second = outcome(function, {**arguments, parameter: value})
                self.assertEqual(value, before, name)
                self.assertEqual(first, second, name)

    def test_values_are_not_taken_for_equal_ones_of_another_kind(self):
        calls = {name: (function_of(module, name), arguments) for module, name, arguments in CALLS}
        for name, parameter in ANY_VALUE:
            function, arguments = calls[name]
            right = arguments[parameter]
            wrong = list(right) if isinstance(right, tuple) else [right]
            answer = outcome(function, {**arguments, parameter: wrong})
            self.assertIn(answer if answer in (False, ()) else answer[0], REFUSALS, name)

    def test_defined_in_the_module_of_the_interface(self):
        for module, name, _ in CALLS:
            self.assertEqual(function_of(module, name).__module__, "keyedmoves." + module)


if __name__ == "__main__":
    unittest.main()
