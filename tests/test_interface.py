"""Points [1], [2] and [4] for the classes View and Desk, and the names of the last section."""

import copy
import importlib
import inspect
import unittest

from helpers import any_values
from keyedmoves.desk import Desk
from keyedmoves.view import View
from record import outcome, state_of

NAMES = {
    "trees": "is_key is_tree keys_of parent_of children_of subtree path_of is_inside",
    "operations": "are_operations run moments moved cost_of are_costs",
    "patches": "fault is_patch kept created removed staying",
    "runs": "heaviest_run cover_of shows_heaviest run_count run_at some_run every_run",
    "staying": "steady steady_children cross conflict can_stay patch_with",
    "cheapest": "least_cost best_staying cheapest_patch covers shows_cheapest",
    "choices": "best_count best_at some_best every_best",
    "returning": "way_back joined batched",
    "view": "View",
    "texts": "show_tree read_tree show_operations read_operations",
    "desk": "Desk",
}

# Each method with the names of its parameters.
METHODS = {
    View: {"__init__": "tree costs", "tree": "", "costs": "", "focused": "", "focus": "key", "blur": "key",
           "price": "key cost", "update": "tree", "preview": "tree", "spent": "", "undo": "", "changes": "", "copy": "",
           "__eq__": "other", "__len__": ""},
    Desk: {"__init__": "text", "say": "line"},
}

TREE = ("list", (("a", (("d", ()),)), ("b", ())))
TURNED = ("list", (("b", ()), ("a", (("d", ()),))))


def used_view():
    """Return a view that has a focused element, costs, something spent and something to undo."""
    view = View(TREE, (("b", 2),))
    view.focus("d")
    view.update(TURNED)
    return view


class Names(unittest.TestCase):
    def test_every_name_is_defined_in_its_module(self):
        for module, names in NAMES.items():
            for name in names.split():
                found = getattr(importlib.import_module("keyedmoves." + module), name)
                self.assertEqual((found.__module__, found.__name__), ("keyedmoves." + module, name))
                self.assertIs(inspect.isclass(found), name in ("View", "Desk"))

    def test_every_method_is_defined_in_its_class(self):
        for kind, methods in METHODS.items():
            self.assertEqual(kind.__bases__, (object,))
            for name, parameters in methods.items():
                self.assertIn(name, vars(kind))
                found = list(inspect.signature(vars(kind)[name]).parameters.values())
                self.assertEqual([parameter.name for parameter in found[1:]], parameters.split(), name)
                self.assertEqual({parameter.kind for parameter in found}, {inspect.Parameter.POSITIONAL_OR_KEYWORD})

    def test_default_values(self):
        for kind, methods in METHODS.items():
            for name in methods:
                found = inspect.signature(vars(kind)[name]).parameters.values()
                defaults = {each.name: each.default for each in found if each.default is not each.empty}
                self.assertEqual(defaults, {"costs": ()} if (kind, name) == (View, "__init__") else {})


class Objects(unittest.TestCase):
    def check_kinds(self, value):
        self.assertIn(value.__class__, (bool, int, str, tuple, None.__class__))
        if isinstance(value, tuple):
            for item in value:
                self.check_kinds(item)

    def test_plain_kinds_of_values(self):
        view = used_view()
        for name, *arguments in (("tree",), ("costs",), ("focused",), ("spent",), ("changes",), ("preview", TREE),
                                 ("update", TREE), ("focus", "a"), ("blur", "a"), ("price", "a", 1), ("undo",)):
            self.check_kinds(getattr(view, name)(*arguments))
        for value, kind in ((view.tree(), tuple), (view.costs(), tuple), (view.focused(), tuple), (view.spent(), int),
                            (view.changes(), int), (len(view), int), (view.preview(TREE), tuple)):
            self.assertIs(value.__class__, kind)
        desk = Desk("a\n  b")
        for line in ("tree", "focus b", "focused", "spent", "size", "children a", "path b", "price b 2",
                     "update\na\n  b", "preview\na\n  b", "undo", "blur b"):
            self.assertIs(desk.say(line).__class__, str)

    def test_questions_change_nothing(self):
        view, twin = used_view(), used_view()
        for name, *arguments in (("tree",), ("costs",), ("focused",), ("spent",), ("changes",), ("preview", TREE),
                                 ("copy",), ("__len__",), ("__eq__", twin)) * 2:
            getattr(view, name)(*arguments)
            self.assertEqual(state_of(view), state_of(twin))

    def test_equal_calls_in_the_same_state(self):
        view = used_view()
        for name, *arguments in (("preview", TREE), ("preview", ("list", ())), ("preview", None), ("copy",), ("tree",),
                                 ("focus", 5), ("blur", "a"), ("price", "a", 0), ("update", [])):
            call = getattr(view, name)
            self.assertEqual(outcome(call, *arguments), outcome(call, *arguments))
        self.assertEqual(used_view().update(TREE), used_view().update(TREE))

    def test_arguments_are_not_modified(self):
        view, desk = used_view(), Desk("a\n  b")
        for value in any_values():
            before = copy.deepcopy(value)
            calls = [(View, value), (View, value, value), (View, TREE, value), (view.focus, value), (view.blur, value),
                     (view.price, value, 5), (view.price, "a", value), (view.price, value, value), (view.update, value),
                     (view.preview, value), (Desk, value), (desk.say, value)]
            for call, *arguments in calls:
                first = outcome(call, *arguments)
                self.assertEqual(value, before)
                if first[0] != "returned":
                    self.assertEqual(outcome(call, *arguments), first)

    def test_what_is_returned_later_is_not_changed_by_later_calls(self):
        view = used_view()
        shown = view.tree(), view.costs(), view.focused(), view.preview(TREE)
        before = copy.deepcopy(shown)
        for name, *arguments in (("blur", "d"), ("price", "a", 7), ("update", TREE), ("focus", "a"), ("undo",)):
            getattr(view, name)(*arguments)
        self.assertEqual(shown, before)


if __name__ == "__main__":
    unittest.main()
