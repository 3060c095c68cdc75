"""Points [22] and [23], guarantees (c) and (d): cheapest.py."""

import itertools
import random
import unittest

from helpers import any_values, chain, flat, in_blocks, key_at, wide, with_one_bool, with_one_list
from helpers import with_one_other
from keyedmoves.cheapest import best_staying, cheapest_patch, covers, least_cost, shows_cheapest
from keyedmoves.errors import Conflict, DifferentRoots, NotKept
from keyedmoves.operations import cost_of, moved
from keyedmoves.patches import is_patch, kept
from keyedmoves.runs import heaviest_run
from keyedmoves.staying import can_stay, conflict, cross, patch_with, steady_children
from keyedmoves.trees import children_of, keys_of
from randoms import random_costs, random_pair, random_staying
from search import cases_from, is_proper_cover, small_cases

# The candidates of root are b, c, d, those of b are e, f.
OLD = ("root", (("a", (("x", ()),)), ("b", (("e", ()), ("f", ()))), ("c", ()), ("d", ())))
NEW = ("root", (("d", (("a", ()),)), ("b", (("f", ()), ("y", ()), ("e", ()))), ("c", ())))
COSTS = (("a", 10), ("c", 2), ("d", 4), ("e", 3), ("x", 100), ("y", 100), ("zz", 1000))
CALLS = (least_cost, best_staying, cheapest_patch, covers)


def model_candidates(old, new, focused):
    """Return a dict from each parent to its candidates in the order of old and of new, by point [22]."""
    found = {}
    for parent in keys_of(old):
        free = [key for key in steady_children(old, new, parent) if key not in focused]
        free = tuple(key for key in free if not any(cross(old, new, key, other) for other in focused))
        if free:
            found[parent] = (free, tuple(key for key in children_of(new, parent) if key in free))
    return found


class CheapestTest(unittest.TestCase):
    def check_all(self, old, new, costs, focused=()):
        """Check what [22] and [23] say against each other, and return the least cost."""
        least = least_cost(old, new, costs, focused=focused)
        stays = best_staying(old, new, costs, focused=focused)
        groups = model_candidates(old, new, focused)
        runs = [heaviest_run(first, second, costs) for first, second in groups.values()]
        self.assertEqual(stays, tuple(sorted([*focused, *(key for run in runs for key in run)])))
        patch = cheapest_patch(old, new, costs, focused=focused)
        self.assertEqual(patch, patch_with(old, new, stays))
        self.assertIs(is_patch(old, new, patch), True)
        self.assertEqual(set(moved(patch)) & set(focused), set())
        self.assertEqual(cost_of(patch, costs), least)
        shown = covers(old, new, costs, focused=focused)
        self.assertEqual([parent for parent, _ in shown], sorted(groups))
        for parent, cover in shown:
            self.assertTrue(is_proper_cover(*groups[parent], costs, cover))
            weight = sum(dict(costs).get(key, 1) for key in heaviest_run(*groups[parent], costs))
            self.assertEqual(sum(times for times, _ in cover), weight)
        self.assertIs(shows_cheapest(old, new, costs, (patch, shown), focused=focused), True)
        return least


class Cheapest(CheapestTest):
    def test_without_focused_elements(self):
        self.assertEqual(self.check_all(OLD, NEW, COSTS), 10 + 3 + 1)
        self.assertEqual(best_staying(OLD, NEW, COSTS), ("d", "e"))
        self.assertEqual(self.check_all(OLD, NEW, ()), 3)
        self.assertEqual(best_staying(OLD, NEW, ()), ("b", "c", "e"))
        self.assertEqual(cheapest_patch(OLD, NEW, ()), (
            ("create", "y", "b", "e"), ("move", "f", "b", "y"), ("move", "d", "root", "b"), ("move", "a", "d", None),
            ("remove", "x")))

    def test_with_focused_elements(self):
        self.assertEqual(self.check_all(OLD, NEW, COSTS, ("b",)), 10 + 4 + 1)
        self.assertEqual(best_staying(OLD, NEW, COSTS, focused=("b",)), ("b", "c", "e"))
        self.assertEqual(best_staying(OLD, NEW, COSTS, focused=("d", "f")), ("d", "f"))
        self.assertEqual(self.check_all(OLD, NEW, COSTS, ("d", "f")), 10 + 3 + 3)
        self.assertEqual(covers(OLD, NEW, COSTS, focused=("d", "f")), ())
        self.assertEqual(covers(OLD, NEW, COSTS, focused=("c",))[1][0], "root")

    def test_focused_is_empty_by_default(self):
        for call in CALLS:
            self.assertEqual(call(OLD, NEW, COSTS), call(OLD, NEW, COSTS, focused=()))

    def test_only_a_root(self):
        for old, new in ((("a", ()), ("a", ())), (("a", ()), flat("a", "bc")), (flat("a", "bc"), ("a", ()))):
            self.assertEqual(self.check_all(old, new, (("b", 5),)), 0)
            self.assertEqual(covers(old, new, ()), ())
            self.assertEqual(best_staying(old, new, ()), ())

    def test_elements_inside_a_moved_one_stay(self):
        old = ("r", (("a", (("b", ()), ("c", ()))), ("d", ())))
        new = ("r", (("d", (("a", (("c", ()), ("b", ()))),)),))
        self.assertEqual(self.check_all(old, new, (("a", 7), ("c", 2))), 8)
        self.assertEqual(best_staying(old, new, (("a", 7), ("c", 2))), ("c", "d"))

    def test_costs_1_and_1000(self):
        old, new = flat("r", "abcd"), flat("r", "dabc")
        for costs, least in (((), 1), ((("d", 1000),), 3), ((("d", 2),), 2), ((("d", 3),), 3), ((("d", 4),), 3),
                             ((("c", 1000), ("d", 1000)), 1000), ((("b", 1000), ("r", 9)), 1)):
            self.assertEqual(self.check_all(old, new, costs), least)

    def test_60_elements(self):
        old, new = wide(60), (key_at(0), wide(60)[1][::-1])
        self.assertEqual(self.check_all(old, new, ()), 58)
        self.assertEqual(best_staying(old, new, ()), (key_at(1),))
        self.assertEqual(best_staying(old, new, ((key_at(40), 1000),)), (key_at(40),))
        self.assertEqual(self.check_all(old, new, (), (key_at(59),)), 58)
        first, second = in_blocks(59, 3)
        self.assertEqual(self.check_all(flat("r", first), flat("r", second), ()), 39)

    def test_20_nested(self):
        old = chain(20)
        self.assertEqual(self.check_all(old, old, ()), 0)
        self.assertEqual(best_staying(old, old, ()), tuple(sorted(keys_of(old)[1:])))
        self.assertEqual(len(covers(old, old, ())), 19)
        new = (key_at(0), ())
        for number in range(1, 20):
            new = (key_at(0), ((key_at(number), new[1]),))
        self.assertEqual(self.check_all(old, new, ()), 19)

    def test_what_was_returned(self):
        old = chain(200)
        self.assertEqual(least_cost(old, old, ()), 0)
        self.assertEqual(least_cost(old, old, (), focused=tuple(sorted(keys_of(old)[1:]))), 0)
        self.assertEqual(cheapest_patch((key_at(0), ()), chain(200), ())[-1], ("create", key_at(199), key_at(198), None))

    def test_large_random_trees(self):
        numbers = random.Random(23)
        for most_nested in (2, 4, 20):
            for choices in ((1, 2, 3), (1, 1000)):
                for _ in range(6):
                    old, new = random_pair(numbers, 60, most_nested)
                    costs = random_costs(numbers, keys_of(old), choices)
                    least = self.check_all(old, new, costs)
                    focused = random_staying(numbers, kept(old, new), lambda keys: can_stay(old, new, keys))
                    self.assertGreaterEqual(self.check_all(old, new, costs, focused), least)


class AllPatches(CheapestTest):
    """Guarantees (c) and (d), for all patches between small trees."""

    def check_patches(self, old_keys, new_keys, many, costs):
        for case in small_cases(old_keys, new_keys, many, costs):
            self.check_least(costs, *case)

    def check_least(self, costs, old, new, focused, least, sets):
        if least is None:
            for call in CALLS:
                with self.assertRaises(Conflict) as caught:
                    call(old, new, costs, focused=focused)
                self.assertEqual(caught.exception.value, conflict(old, new, focused))
        else:
            self.assertEqual(least_cost(old, new, costs, focused=focused), least)
            stays = best_staying(old, new, costs, focused=focused)
            self.assertIn(stays, sets)
            patch = cheapest_patch(old, new, costs, focused=focused)
            self.assertEqual(cost_of(patch, costs), least)
            self.assertEqual(patch, patch_with(old, new, stays))
            shown = patch, covers(old, new, costs, focused=focused)
            self.assertIs(shows_cheapest(old, new, costs, shown, focused=focused), True)

    def test_the_same_keys(self):
        self.check_patches("abc", "abc", 30, ())
        self.check_patches("abc", "abc", 30, (("a", 3), ("c", 2), ("r", 9)))
        self.check_patches("abcd", "abcd", 2, (("a", 2), ("d", 3)))

    def test_with_created_and_removed_elements(self):
        for costs in ((), (("a", 1000), ("b", 2), ("d", 1000))):
            self.check_patches("abc", "bcd", 6, costs)
            self.check_patches("abc", "bc", 10, costs)
            self.check_patches("bc", "abc", 4, costs)

    def test_siblings(self):
        costs = (("a", 3), ("b", 2), ("d", 4))
        new_trees = [flat("r", order) for order in itertools.permutations("abcd")]
        for case in cases_from(flat("r", "abcd"), new_trees, costs):
            self.check_least(costs, *case)


class ShowsCheapest(CheapestTest):
    PATCH = (("create", "y", "b", "e"), ("move", "f", "b", "y"), ("move", "d", "root", "b"), ("move", "a", "d", None),
             ("remove", "x"))
    COVERS = (("b", ((1, ("e", "f")),)), ("root", ((1, ("b", "d")), (1, ("c", "d")))))

    def check(self, expected, value, costs=(), focused=()):
        self.assertIs(shows_cheapest(OLD, NEW, costs, value, focused=focused), expected, value)

    def test_right_ones(self):
        self.check(True, (self.PATCH, self.COVERS))
        self.check(True, (self.PATCH, covers(OLD, NEW, ())))
        self.check(True, (self.PATCH, (self.COVERS[0], ("root", ((1, ("b", "d")), (1, ("c",)))))))
        other = (("move", "a", "d", None), ("remove", "x"), ("move", "e", "b", None), ("create", "y", "b", "e"),
                 ("move", "d", "root", "b"))
        self.check(True, (other, self.COVERS))

    def test_patches_that_are_dearer_or_none(self):
        dearer = patch_with(OLD, NEW, ("b", "e"))
        self.assertIs(is_patch(OLD, NEW, dearer), True)
        wrong = [dearer, patch_with(OLD, NEW, ()), (*self.PATCH, ("move", "c", "root", None)), self.PATCH[:-1],
                 self.PATCH[1:], (), (*self.PATCH, ("remove", "x")), self.PATCH[::-1], list(self.PATCH), None,
                 (("move", "x", "c", None), *self.PATCH), ("move", "f", "b", "e")]
        for steps in wrong:
            self.check(False, (steps, self.COVERS))

    def test_operations_of_the_right_cost_that_are_no_patch(self):
        for steps in ((("move", "a", "c", None),) * 3, tuple(("move", key, "root", None) for key in "adf")):
            self.assertEqual(cost_of(steps, ()), 3)
            self.check(False, (steps, self.COVERS))

    def test_wrong_covers(self):
        inner, outer = self.COVERS
        wrong = [(), (inner,), (outer,), (outer, inner), (inner, inner), (inner, outer, outer), (inner, inner, outer),
                 (*self.COVERS, ("c", ())), (("a", ()), *self.COVERS), (inner, ("root", ())), (("b", ()), outer),
                 (inner, ("rooot", outer[1])), (("a", inner[1]), outer), (("b", ((2, ("e", "f")),)), outer),
                 (("b", ((1, ("f", "e")),)), outer), (("b", ((1, ("e",)),)), outer), (("b", ((1, ("f",)),)), outer),
                 (("b", ((1, ("e", "f", "y")),)), outer), (("b", ((1, ("e", "d")),)), outer),
                 (inner, ("root", ((1, ("b", "c", "d")), (1, ("c", "d"))))), (inner, ("root", ((2, ("b", "d")),))),
                 (inner, ("root", ((1, ("a", "b", "d")), (1, ("c", "d"))))), (("b", *inner), outer), ("b", "root"),
                 (inner[1], outer[1]), (("b", inner[1], ()), outer), (("b",), outer)]
        for value in wrong:
            self.check(False, (self.PATCH, value))

    def test_the_times_of_one_parent_do_not_stand_for_those_of_another(self):
        inner, outer = self.COVERS
        more, less = ("b", ((1, ("e", "f")), (1, ("e",)))), ("root", ((1, ("b", "d")),))
        self.check(False, (self.PATCH, (more, less)))
        self.check(False, (patch_with(OLD, NEW, ("b", "c")), (inner, outer)))

    def test_too_many_times_for_a_dear_patch(self):
        inner, outer = self.COVERS
        self.check(False, (self.PATCH, (("b", (*inner[1], (1, ("e",)))), outer)))
        self.check(False, (patch_with(OLD, NEW, ("b", "e")), (inner, outer)))

    def test_costs_count(self):
        self.check(False, (self.PATCH, self.COVERS), COSTS)
        patch = cheapest_patch(OLD, NEW, COSTS)
        self.check(True, (patch, covers(OLD, NEW, COSTS)), COSTS)
        self.check(False, (patch, self.COVERS), COSTS)
        self.check(False, (self.PATCH, covers(OLD, NEW, COSTS)), COSTS)
        self.check(True, (self.PATCH, self.COVERS), (("x", 7), ("y", 7), ("zz", 7), ("root", 7)))

    def test_moving_a_removed_element_costs_too(self):
        self.check(False, ((("move", "x", "root", None), *self.PATCH), self.COVERS))
        # Without its cost this would be a cheapest patch.
        self.assertIs(is_patch(OLD, NEW, (("move", "x", "root", None), *self.PATCH)), True)

    def test_focused_elements(self):
        self.check(True, (self.PATCH, (("root", ((1, ("b", "d")), (1, ("c",)))),)), (), ("e",))
        self.check(False, (self.PATCH, (("root", ((1, ("b",)), (1, ("c",)))),)), (), ("e",))
        self.check(False, (self.PATCH, self.COVERS), (), ("e",))
        self.check(False, (self.PATCH, (("root", ((1, ("b", "d")), (1, ("c",)))),)), (("d", 3),), ("e",))
        self.check(False, (self.PATCH, (("root", ((1, ("b", "d")), (1, ("c", "d")))),)), (), ("f",))
        self.check(True, (self.PATCH, (("b", ((1, ("e", "f")),)), ("root", ((1, ("c",)),)))), (), ("b",))
        self.check(False, (self.PATCH, (("b", ((1, ("e", "f")),)), ("root", ((1, ("c", "d")),)))), (), ("b",))
        self.check(True, (self.PATCH, ()), (), ("b", "c", "e"))

    def test_a_patch_that_moves_a_focused_element(self):
        old, new = flat("r", "ab"), flat("r", "ba")
        stays_a, stays_b = (("move", "b", "r", "a"),), (("move", "a", "r", None),)
        for patch, focused, expected in ((stays_a, ("a",), True), (stays_b, ("b",), True), (stays_a, ("b",), False),
                                         (stays_b, ("a",), False)):
            self.assertIs(shows_cheapest(old, new, (), (patch, ()), focused=focused), expected)

    def test_lists_and_bools(self):
        value = (self.PATCH, self.COVERS)
        self.check(True, value)
        for changed in [*with_one_list(value), *with_one_bool(value)]:
            self.check(False, changed)

    def test_any_value(self):
        for value in any_values():
            self.check(False, value)
            self.check(False, (self.PATCH, value))
            self.check(False, (value, self.COVERS))
            self.check(False, (self.PATCH, self.COVERS, value))

    def test_any_value_in_any_place(self):
        value = (self.PATCH, self.COVERS)
        for other in any_values():
            if other not in (1, "b", "c", "d", "e", "f", "y", "root"):
                for changed in with_one_other(value, [other]):
                    if changed != value:
                        self.check(False, changed)

    def test_equal_trees_without_kept_elements(self):
        tree = ("r", ())
        self.assertIs(shows_cheapest(tree, tree, (), ((), ())), True)
        for value in ((), [(), ()], ((), []), ([], ()), ((), (("r", ()),)), None, ((), (), ()), ((),)):
            self.assertIs(shows_cheapest(tree, tree, (), value), False)


class Errors(unittest.TestCase):
    def calls(self):
        for call in CALLS:
            yield lambda old, new, focused, call=call: call(old, new, (), focused=focused)
        for value in ((ShowsCheapest.PATCH, ShowsCheapest.COVERS), None, [], ((), ())):
            yield lambda old, new, focused, value=value: shows_cheapest(old, new, (), value, focused=focused)

    def test_not_kept(self):
        wrong = [("root",), ("x",), ("y",), ("zz",), ("b", "a"), ("a", "a"), ("b", "root"), ("b", "x"), "b", ["b"], [],
                 None, 0, True, False, {}, "", ("b", None), (("b",),), ("c", "b"), ("b", "b", "c"), {"b": 1}]
        wrong += [value for value in any_values() if value not in ((), ("a",), ("a", "b"))]
        for value in wrong:
            for call in self.calls():
                with self.assertRaises(NotKept) as caught:
                    call(OLD, NEW, value)
                self.assertIs(caught.exception.value, value)

    def test_conflict(self):
        for focused, expected in ((("a",), ("a",)), (("a", "b", "d"), ("a",)), (("b", "d"), ("b", "d")),
                                  (("b", "c", "d", "e", "f"), ("b", "d")), (("c", "d", "e", "f"), ("c", "d")),
                                  (("e", "f"), ("e", "f"))):
            for call in self.calls():
                with self.assertRaises(Conflict) as caught:
                    call(OLD, NEW, focused)
                self.assertEqual(caught.exception.value, expected)

    def test_different_roots(self):
        for focused in [*any_values(), ("a",), ("zz",), ("b", "d"), ["b"]]:
            for call in self.calls():
                with self.assertRaises(DifferentRoots):
                    call(OLD, ("other", NEW[1]), focused)

    def test_focused_by_name_alone(self):
        for call in CALLS:
            with self.assertRaises(TypeError):
                call(OLD, NEW, (), ())
        with self.assertRaises(TypeError):
            shows_cheapest(OLD, NEW, (), (), ())


if __name__ == "__main__":
    unittest.main()
