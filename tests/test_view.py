"""Point [26] and guarantee (g): view.py."""

import random
import unittest

from helpers import all_trees, any_values, chain, flat, key_at, wide, with_one_bool, with_one_list
from keyedmoves.cheapest import cheapest_patch, least_cost
from keyedmoves.errors import (BadCosts, BadTree, Conflict, DifferentRoots, Lost, NoElement, NotFocused,
                               NothingToUndo, Root)
from keyedmoves.trees import keys_of
from keyedmoves.view import View
from randoms import random_costs, random_pair, random_step, random_tree
from record import Record, outcome, state_of
from search import cases_from

TREE = ("list", (("a", (("d", ()),)), ("b", ()), ("c", ())))
TURNED = ("list", (("b", ()), ("c", ()), ("a", (("d", ()),))))
COSTS = (("a", 4), ("x", 7))


class ViewTest(unittest.TestCase):
    def check_refused(self, view, expected, value, call, *arguments):
        """Check that a call raises this error, with the very value if it has one, and changes nothing."""
        before, equal = state_of(view), view.copy()
        with self.assertRaises(expected) as caught:
            call(*arguments)
        self.assertIs(caught.exception.__class__, expected)
        if vars(caught.exception):
            (found,) = vars(caught.exception).values()
            self.assertEqual(found, value)
            self.assertIs(found.__class__, value.__class__)
        self.assertEqual(state_of(view), before)
        self.assertEqual(view, equal)

    def check_undone(self, view, states):
        """Check that undo goes back through these states, the last one first, and then no further."""
        for many, state in reversed(list(enumerate(states))):
            self.assertIsNone(view.undo())
            self.assertEqual(state_of(view), state)
            self.assertEqual(view.changes(), many)
        self.check_refused(view, NothingToUndo, None, view.undo)
        self.check_refused(view, NothingToUndo, None, view.undo)


class Construction(ViewTest):
    def test_a_new_view(self):
        self.assertEqual(state_of(View(TREE, COSTS)), (TREE, COSTS, (), 0, 0, 5))
        self.assertEqual(state_of(View(TREE)), (TREE, (), (), 0, 0, 5))
        self.assertEqual(state_of(View(costs=COSTS, tree=TREE)), (TREE, COSTS, (), 0, 0, 5))
        self.assertEqual(state_of(View(("a", ()))), (("a", ()), (), (), 0, 0, 1))

    def test_edges(self):
        for tree, size in ((wide(60), 60), (chain(20), 20), (("abcdefgh", ()), 1)):
            self.assertEqual(len(View(tree)), size)
        for costs in ((("a", 1),), (("a", 1000),), (("abcdefgh", 5),), tuple((key_at(at), 1) for at in range(300))):
            self.assertEqual(View(TREE, costs).costs(), costs)

    def check_bad_tree(self, value, *costs):
        with self.assertRaises(BadTree) as caught:
            View(value, *costs)
        self.assertIs(caught.exception.value, value)

    def check_bad_costs(self, value):
        with self.assertRaises(BadCosts) as caught:
            View(TREE, value)
        self.assertIs(caught.exception.value, value)

    def test_bad_trees(self):
        for value in [wide(61), chain(21), ("abcdefghi", ()), ("a", (("a", ()),)), *with_one_list(TREE), *any_values()]:
            if value != ("a", ()):
                self.check_bad_tree(value)
                self.check_bad_tree(value, COSTS)

    def test_bad_costs(self):
        wrong = [(("a", 0),), (("a", 1001),), (("a", True),), (("b", 1), ("a", 1)), (("a", 1), ("a", 2)),
                 (("abcdefghi", 1),), ("a", 1), (("A", 1),), (("a", 1, 1),), {"a": 1}, (("a", None),)]
        wrong += [*with_one_list(COSTS), *with_one_bool((("a", 1),)), *any_values()]
        for value in wrong:
            if value != ():
                self.check_bad_costs(value)

    def test_a_bad_tree_goes_ahead_of_bad_costs(self):
        for value in any_values():
            self.check_bad_tree(["a", ()], value)
            self.check_bad_tree(None, value)


class Focus(ViewTest):
    def test_focus_and_blur(self):
        view = View(TREE)
        self.assertIsNone(view.focus("c"))
        self.assertIsNone(view.focus("a"))
        self.assertIsNone(view.focus("d"))
        self.assertEqual(view.focused(), ("a", "c", "d"))
        self.assertIsNone(view.blur("c"))
        self.assertEqual(view.focused(), ("a", "d"))
        self.assertEqual(view.changes(), 4)
        self.assertIsNone(view.blur("a"))
        self.assertIsNone(view.blur("d"))
        self.assertEqual(state_of(view), (TREE, (), (), 0, 6, 5))

    def test_by_name(self):
        view = View(TREE)
        view.focus(key="b")
        self.assertEqual(view.focused(), ("b",))
        view.blur(key="b")
        self.assertEqual(view.focused(), ())

    def test_focus_of_a_focused_element_can_be_undone(self):
        view = View(TREE)
        view.focus("b")
        self.assertIsNone(view.focus("b"))
        self.assertEqual((view.focused(), view.changes()), (("b",), 2))
        view.undo()
        self.assertEqual((view.focused(), view.changes()), (("b",), 1))
        view.undo()
        self.assertEqual((view.focused(), view.changes()), ((), 0))

    def test_no_element(self):
        view = View(TREE)
        view.focus("b")
        for key in [*any_values(), "e", "x", "List", "bb", ("b",), ["b"], TREE]:
            if key != "a":
                self.check_refused(view, NoElement, key, view.focus, key)

    def test_the_root(self):
        view = View(TREE)
        self.check_refused(view, Root, "list", view.focus, "list")
        alone = View(("a", ()))
        self.check_refused(alone, Root, "a", alone.focus, "a")

    def test_not_focused(self):
        view = View(TREE)
        view.focus("b")
        for key in [*any_values(), "a", "list", "x", "c", ("b",), ["b"], {"b": "b"}]:
            self.check_refused(view, NotFocused, key, view.blur, key)
        view.blur("b")
        self.check_refused(view, NotFocused, "b", view.blur, "b")

    def test_an_element_that_an_update_created_and_removed(self):
        view = View(flat("r", "a"))
        self.check_refused(view, NoElement, "b", view.focus, "b")
        view.update(flat("r", "ab"))
        view.focus("b")
        self.assertEqual(view.focused(), ("b",))
        view.blur("b")
        view.update(flat("r", "a"))
        self.check_refused(view, NoElement, "b", view.focus, "b")


class Price(ViewTest):
    def test_ascending(self):
        view = View(TREE, (("b", 2),))
        for key, cost, expected in (("c", 5, (("b", 2), ("c", 5))), ("a", 1000, (("a", 1000), ("b", 2), ("c", 5))),
                                    ("b", 3, (("a", 1000), ("b", 3), ("c", 5))),
                                    ("ba", 3, (("a", 1000), ("b", 3), ("ba", 3), ("c", 5))),
                                    ("abcdefgh", 7, (("a", 1000), ("abcdefgh", 7), ("b", 3), ("ba", 3), ("c", 5)))):
            self.assertIsNone(view.price(key, cost))
            self.assertEqual(view.costs(), expected)
        self.assertEqual(view.changes(), 5)

    def test_by_name(self):
        view = View(TREE)
        view.price(cost=5, key="a")
        self.assertEqual(view.costs(), (("a", 5),))

    def test_the_cost_1_is_kept(self):
        view = View(TREE)
        view.price("a", 1)
        self.assertEqual(view.costs(), (("a", 1),))
        self.assertNotEqual(view, View(TREE))
        view.price("a", 2)
        view.price("a", 1)
        self.assertEqual((view.costs(), view.changes()), ((("a", 1),), 3))

    def test_the_same_cost_again_can_be_undone(self):
        view = View(TREE, COSTS)
        view.price("a", 4)
        self.assertEqual((view.costs(), view.changes()), (COSTS, 1))
        self.check_undone(view, [(TREE, COSTS, (), 0, 0, 5)])

    def test_keys_that_the_tree_does_not_have(self):
        view = View(TREE)
        view.price("zz", 9)
        view.price("list", 8)
        self.assertEqual(view.costs(), (("list", 8), ("zz", 9)))

    def test_bad_costs(self):
        view = View(TREE, COSTS)
        for cost in (0, 1001, -1, True, False, None, "5", (5,), [5], 10 ** 30):
            self.check_refused(view, BadCosts, ("a", cost), view.price, "a", cost)
        for key in ("", "A", "abcdefghi", "a1", "a ", None, 1, True, ("a",), ["a"], {}):
            self.check_refused(view, BadCosts, (key, 5), view.price, key, 5)

    def test_any_values(self):
        view = View(TREE, COSTS)
        for value in any_values():
            self.check_refused(view, BadCosts, (value, 5), view.price, value, 5)
            if value.__class__ is not int or not 1 <= value <= 1000:
                self.check_refused(view, BadCosts, ("a", value), view.price, "a", value)
            self.check_refused(view, BadCosts, (value, value), view.price, value, value)

    def test_the_kind_of_a_cost(self):
        view = View(TREE)
        with self.assertRaises(BadCosts) as caught:
            view.price("a", True)
        self.assertIs(caught.exception.value[1], True)


class Update(ViewTest):
    def test_the_patch(self):
        view = View(TREE, COSTS)
        self.assertEqual(view.preview(TURNED), (("move", "c", "list", "a"), ("move", "b", "list", "c")))
        self.assertEqual(state_of(view), (TREE, COSTS, (), 0, 0, 5))
        self.assertEqual(view.update(TURNED), (("move", "c", "list", "a"), ("move", "b", "list", "c")))
        self.assertEqual(state_of(view), (TURNED, COSTS, (), 2, 1, 5))

    def test_by_name(self):
        view = View(TREE)
        self.assertEqual(view.preview(tree=TURNED), view.update(tree=TURNED))

    def test_costs_that_a_call_gave(self):
        view = View(TREE)
        self.assertEqual(view.preview(TURNED), (("move", "a", "list", None),))
        view.price("a", 3)
        self.assertEqual(view.update(TURNED), cheapest_patch(TREE, TURNED, (("a", 3),)))
        self.assertEqual(view.spent(), 2)

    def test_focused_elements_stay_focused_and_unmoved(self):
        view = View(TREE, COSTS)
        view.focus("c")
        view.focus("d")
        self.assertEqual(view.update(TURNED), (("move", "a", "list", None),))
        self.assertEqual((view.focused(), view.spent()), (("c", "d"), 4))
        new = ("list", (("c", ()), ("e", (("b", ()),)), ("a", (("d", ()),))))
        self.assertEqual(view.update(new), (("create", "e", "list", "a"), ("move", "b", "e", None)))
        self.assertEqual((view.focused(), view.spent()), (("c", "d"), 5))

    def test_the_same_tree(self):
        view = View(TREE, COSTS)
        view.focus("a")
        self.assertEqual(view.preview(TREE), ())
        self.assertEqual(view.update(TREE), ())
        self.assertEqual(state_of(view), (TREE, COSTS, ("a",), 0, 2, 5))
        self.check_undone(view, [(TREE, COSTS, (), 0, 0, 5), (TREE, COSTS, ("a",), 0, 1, 5)])

    def test_edges(self):
        view = View((key_at(0), ()))
        for tree, size in ((wide(60), 60), (chain(20), 20), ((key_at(0), ()), 1)):
            view.update(tree)
            self.assertEqual((view.tree(), len(view), view.spent()), (tree, size, 18 if size < 60 else 0))

    def test_bad_trees(self):
        view = View(TREE, COSTS)
        view.focus("a")
        for tree in [wide(61), chain(21), ("list", (("b", ()), ("b", ()))), ("abcdefghi", ()), *with_one_list(TREE),
                     *any_values()]:
            if tree != ("a", ()):
                self.check_refused(view, BadTree, tree, view.update, tree)
                self.check_refused(view, BadTree, tree, view.preview, tree)

    def test_different_roots(self):
        view = View(TREE)
        for tree in (("other", ()), ("a", ()), ("other", TREE[1]), ("a", (("list", ()),))):
            self.check_refused(view, DifferentRoots, None, view.update, tree)
            self.check_refused(view, DifferentRoots, None, view.preview, tree)

    def test_lost(self):
        view = View(TREE)
        for key in "cad":
            view.focus(key)
        for tree, expected in ((flat("list", "cb"), ("a", "d")), (("list", ()), ("a", "c", "d")),
                               (flat("list", "ad"), ("c",)), (flat("list", "xbyz"), ("a", "c", "d"))):
            self.check_refused(view, Lost, expected, view.update, tree)
            self.check_refused(view, Lost, expected, view.preview, tree)

    def test_conflict(self):
        view = View(TREE)
        for key in "cab":
            view.focus(key)
        for tree, expected in ((TURNED, ("a", "b")), (flat("list", "acb"), ("b", "c")),
                               (("list", (("a", (("b", ()),)), ("c", ()))), ("b",)),
                               (("list", (("c", ()), ("b", ()), ("d", (("a", ()),)))), ("a",))):
            self.check_refused(view, Conflict, expected, view.update, tree)
            self.check_refused(view, Conflict, expected, view.preview, tree)
        self.assertEqual(view.update(flat("list", "abc")), (("remove", "d"),))

    def test_the_order_of_errors(self):
        view = View(TREE)
        view.focus("a")
        view.focus("b")
        view.focus("c")
        # Other root, lost and conflict all at once, and then one less each time.
        everything = ("other", (("b", ()), ("a", ())))
        for call in (view.update, view.preview):
            self.check_refused(view, BadTree, list(everything), call, list(everything))
            self.check_refused(view, BadTree, flat("other", "cc"), call, flat("other", "cc"))
            self.check_refused(view, DifferentRoots, None, call, everything)
            self.check_refused(view, Lost, ("c",), call, ("list", everything[1]))
            self.check_refused(view, Conflict, ("a", "b"), call, ("list", (*everything[1], ("c", ()))))

    def test_a_focused_element_that_changes_its_parent(self):
        view = View(TREE)
        view.focus("d")
        self.check_refused(view, Conflict, ("d",), view.update, flat("list", "abcd"))
        view.blur("d")
        self.assertEqual(view.update(flat("list", "abcd")), (("move", "d", "list", None),))


class Spent(ViewTest):
    def test_each_update_with_the_costs_of_its_time(self):
        view = View(flat("r", "ab"), (("a", 5), ("b", 9)))
        view.update(flat("r", "ba"))
        self.assertEqual(view.spent(), 5)
        view.price("a", 1000)
        self.assertEqual(view.spent(), 5)
        view.update(flat("r", "ab"))
        self.assertEqual(view.spent(), 14)
        view.price("b", 1)
        view.update(flat("r", "ba"))
        self.assertEqual(view.spent(), 15)
        for expected in (14, 14, 5, 5, 0):
            view.undo()
            self.assertEqual(view.spent(), expected)

    def test_previews_and_refused_calls_cost_nothing(self):
        view = View(flat("r", "ab"))
        view.preview(flat("r", "ba"))
        for tree in (flat("q", "ba"), None):
            outcome(view.update, tree)
        self.assertEqual((view.spent(), view.changes()), (0, 0))

    def test_created_and_removed_elements_cost_nothing(self):
        view = View(flat("r", "ab"), (("a", 5), ("c", 9)))
        view.update(flat("r", "cb"))
        self.assertEqual(view.spent(), 0)


class Undo(ViewTest):
    def test_every_kind_of_call(self):
        view, states = View(TREE, COSTS), []
        calls = [(view.focus, "b"), (view.update, flat("list", "cbd")), (view.price, "c", 9), (view.focus, "d"),
                 (view.update, flat("list", "bcd")), (view.blur, "b"), (view.price, "c", 1), (view.focus, "d"),
                 (view.update, flat("list", "bcd")), (view.blur, "d"), (view.update, TREE)]
        for call, *arguments in calls:
            states.append(state_of(view))
            call(*arguments)
        self.assertEqual(view.changes(), 11)
        self.check_undone(view, states)

    def test_nothing_to_undo(self):
        view = View(TREE)
        self.check_refused(view, NothingToUndo, None, view.undo)
        view.tree(), view.costs(), view.focused(), view.spent(), view.changes(), view.copy(), len(view)
        view.preview(TURNED)
        self.assertEqual(view, View(TREE))
        self.check_refused(view, NothingToUndo, None, view.undo)

    def test_refused_calls_are_not_undone(self):
        view = View(TREE)
        view.focus("a")
        for call, *arguments in ((view.focus, "list"), (view.blur, "b"), (view.price, "a", 0), (view.update, ("x", ())),
                                 (view.update, flat("list", "b")), (view.update, None), (view.focus, "x")):
            self.assertNotEqual(outcome(call, *arguments)[0], "returned")
        self.assertEqual(view.changes(), 1)
        view.undo()
        self.assertEqual(state_of(view), (TREE, (), (), 0, 0, 5))

    def test_undo_is_not_undone(self):
        view = View(TREE)
        view.focus("a")
        view.focus("b")
        view.undo()
        view.focus("c")
        self.assertEqual((view.focused(), view.changes()), (("a", "c"), 2))
        view.undo()
        self.assertEqual(view.focused(), ("a",))
        view.undo()
        self.assertEqual(view.focused(), ())
        self.check_refused(view, NothingToUndo, None, view.undo)

    def test_many_calls(self):
        view, states = View(flat("r", "ab")), []
        for number in range(500):
            states.append(state_of(view))
            view.update(flat("r", "ba" if number % 2 == 0 else "ab"))
        self.assertEqual((view.spent(), view.changes()), (500, 500))
        self.check_undone(view, states)


class CopyAndEqual(ViewTest):
    def changed_view(self):
        view = View(TREE, COSTS)
        view.focus("d")
        view.update(TURNED)
        view.price("b", 3)
        return view

    def test_the_same_state_and_the_same_calls_to_undo(self):
        view, states = View(TREE, COSTS), []
        for call, argument in ((view.focus, "d"), (view.update, TURNED), (view.blur, "d")):
            states.append(state_of(view))
            call(argument)
        twin = view.copy()
        self.assertIs(twin.__class__, View)
        self.assertEqual(state_of(twin), state_of(view))
        self.check_undone(twin, states)
        self.assertEqual(view.changes(), 3)
        self.check_undone(view, states)

    def test_independent(self):
        view = self.changed_view()
        before, twin = state_of(view), view.copy()
        for call, *arguments in ((twin.focus, "a"), (twin.price, "a", 9), (twin.blur, "d"), (twin.update, TREE)):
            call(*arguments)
            self.assertEqual(state_of(view), before)
        for _ in range(7):
            twin.undo()
            self.assertEqual(state_of(view), before)
        other = view.copy()
        for call, *arguments in ((view.undo,), (view.undo,), (view.focus, "b"), (view.update, flat("list", "bd"))):
            outcome(call, *arguments)
            self.assertEqual(state_of(other), before)
        self.assertEqual(twin.changes(), 0)

    def test_a_copy_of_a_copy(self):
        view = self.changed_view()
        twin = view.copy().copy()
        self.assertEqual(state_of(twin), state_of(view))
        twin.undo()
        self.assertEqual(twin.costs(), COSTS)

    def check_equal(self, one, other, expected):
        self.assertIs(one == other, expected)
        self.assertIs(other == one, expected)
        self.assertIs(one != other, not expected)
        self.assertIs(other != one, not expected)

    def test_equal(self):
        self.check_equal(View(TREE), View(TREE), True)
        self.check_equal(View(TREE), View(TREE, ()), True)
        view = View(TREE)
        self.check_equal(view, view, True)
        self.check_equal(view, view.copy(), True)

    def test_trees_costs_and_focused_elements_count(self):
        self.check_equal(View(TREE), View(TURNED), False)
        self.check_equal(View(TREE), View(TREE, COSTS), False)
        self.check_equal(View(TREE), View(TREE, (("a", 1),)), False)
        view = View(TREE)
        view.focus("a")
        self.check_equal(view, View(TREE), False)
        other = View(TREE)
        other.focus("b")
        self.check_equal(view, other, False)
        other.focus("a")
        other.blur("b")
        self.check_equal(view, other, True)

    def test_what_was_spent_and_can_be_undone_does_not_count(self):
        view = View(TREE)
        view.update(TURNED)
        view.update(TREE)
        self.assertEqual((view.spent(), view.changes()), (2, 2))
        self.check_equal(view, View(TREE), True)

    def test_a_view_equals_nothing_else(self):
        view = View(("a", ()))
        for other in [*any_values(), ("a", ()), (("a", ()), (), ()), object(), View]:
            self.check_equal(view, other, False)

    def test_len(self):
        view = View(("r", ()))
        self.assertEqual(len(view), 1)
        view.update(flat("r", "abc"))
        self.assertEqual(len(view), 4)
        view.update(("r", (("a", (("b", (("c", (("d", ()),)),)),)),)))
        self.assertEqual(len(view), 5)
        view.undo()
        self.assertEqual(len(view), 4)


class AllPatches(ViewTest):
    """The costs of updates beside those of all patches between small trees."""

    def check_from(self, old, new_trees, costs):
        for _, new, focused, least, _ in cases_from(old, new_trees, costs):
            view = View(old, costs)
            for key in focused:
                view.focus(key)
            if least is None:
                self.assertEqual(outcome(view.update, new)[0], "Conflict")
            else:
                patch = view.update(new)
                self.assertEqual(view.spent(), least)
                self.assertEqual(patch, cheapest_patch(old, new, costs, focused=focused))
                view.undo()
                self.assertEqual((view.tree(), view.spent(), view.focused()), (old, 0, focused))

    def test_the_same_keys(self):
        trees = all_trees("r", "abc")
        for old in trees:
            self.check_from(old, trees, (("a", 3), ("c", 2)))

    def test_other_keys(self):
        for old in all_trees("r", "abc")[::4]:
            self.check_from(old, all_trees("r", "bcd"), (("b", 2), ("c", 5), ("d", 1000)))

    def test_from_tree_to_tree(self):
        numbers = random.Random(31)
        trees, costs = all_trees("r", "abc"), (("b", 2),)
        view, spent = View(trees[0], costs), 0
        for _ in range(200):
            new = numbers.choice(trees)
            spent += least_cost(view.tree(), new, costs)
            view.update(new)
            self.assertEqual((view.tree(), view.spent()), (new, spent))


class BesideARecord(ViewTest):
    """Many calls, some of them refused, beside a record that the test keeps itself."""

    VALUES = any_values()

    def draw(self, numbers, record):
        """Return the name of a method and its arguments."""
        tree = record.now["tree"]
        keys = [*keys_of(tree), *sorted(record.now["focused"])]
        key = numbers.choice([*keys, "zz", "Zz", numbers.choice(self.VALUES)])
        other = self.draw_tree(numbers, tree)
        calls = [("focus", key), ("blur", key), ("blur", numbers.choice(keys)), ("undo",), ("preview", other)]
        calls += [("price", key, numbers.choice([1, 2, 5, 1000, 0, 1001, True, numbers.choice(self.VALUES)]))]
        calls += [("update", other), ("update", other), ("update", other)]
        return numbers.choice(calls)

    def draw_tree(self, numbers, tree):
        """Return a tree that is near to this one, or seldom something else."""
        chance = numbers.random()
        if chance < 0.05:
            return numbers.choice([*self.VALUES, list(tree), wide(61)])
        if chance < 0.1:
            return "other", tree[1]
        if chance < 0.2:
            keys = list(keys_of(tree)[1:])
            numbers.shuffle(keys)
            return random_tree(numbers, [tree[0], *keys], 20)
        for _ in range(numbers.randrange(3)):
            tree = random_step(numbers, tree, 20)
        return tree

    def check_calls(self, numbers, view, record, many):
        seen = {}
        for _ in range(many):
            name, *arguments = self.draw(numbers, record)
            preview = outcome(view.preview, *arguments) if name == "update" else None
            found = outcome(getattr(view, name), *arguments)
            self.assertEqual(found, record.expect(name, *arguments))
            self.assertIn(preview, (None, found))
            self.assertEqual(state_of(view), record.state())
            seen[name, found[0]] = seen.get((name, found[0]), 0) + 1
        return seen

    def test_many_calls(self):
        numbers, seen = random.Random(32), {}
        for size in (2, 4, 8, 25, 58):
            for _ in range(8):
                old, _ = random_pair(numbers, size)
                costs = random_costs(numbers, keys_of(old), (1, 2, 3, 1000))
                view, record = View(old, costs), Record(old, costs)
                for outcomes in (self.check_calls(numbers, view, record, 60), self.check_copy(numbers, view, record)):
                    seen.update(outcomes)
                while record.past:
                    self.assertEqual(outcome(view.undo), record.expect("undo"))
                    self.assertEqual(state_of(view), record.state())
                self.assertEqual(view, View(old, costs))
        refused = [("focus", "NoElement"), ("focus", "Root"), ("blur", "NotFocused"), ("price", "BadCosts"),
                   ("update", "BadTree"), ("update", "DifferentRoots"), ("update", "Lost"), ("update", "Conflict"),
                   ("undo", "NothingToUndo")]
        for name, word in refused + [(name, "returned") for name in "focus blur price update preview undo".split()]:
            self.assertIn((name, word), seen)

    def check_copy(self, numbers, view, record):
        """Go on with a copy, which must leave the view as it is."""
        twin, before = view.copy(), state_of(view)
        other = Record(record.now["tree"])
        other.now, other.past = record.now, list(record.past)
        seen = self.check_calls(numbers, twin, other, 20)
        self.assertEqual(state_of(view), before)
        return seen


if __name__ == "__main__":
    unittest.main()
