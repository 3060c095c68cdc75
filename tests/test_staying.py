"""Points [10] and [19] to [21], guarantees (a) and (b): staying.py."""

import itertools
import random
import unittest

from helpers import all_trees, any_values, chain, find_parent, flat, key_at, thaw, wide, with_one_list
from keyedmoves.errors import Conflict, DifferentRoots, NotKept
from keyedmoves.operations import moments, moved, run
from keyedmoves.patches import created, is_patch, kept, removed, staying
from keyedmoves.staying import can_stay, conflict, cross, patch_with, steady, steady_children
from keyedmoves.trees import keys_of
from model_staying import model_conflict, model_cross, model_patch, model_steady
from randoms import random_pair, random_staying
from search import all_patches, keys_in, subsets

OLD = ("root", (("a", (("b", ()), ("c", ()), ("d", ()))), ("e", (("f", ()), ("g", ()))), ("h", ()), ("i", ()),
                ("x", (("y", ()), ("k", ())))))
NEW = ("root", (("i", ()), ("k", ()), ("a", (("d", ()), ("b", ()), ("m", ()), ("c", ()))), ("n", (("f", ()),)),
                ("h", (("e", (("g", ()),)),))))


class Steady(unittest.TestCase):
    def test_steady(self):
        self.assertEqual(steady(OLD, NEW), ("a", "b", "c", "d", "g", "h", "i"))
        self.assertEqual(steady(OLD, OLD), ("a", "b", "c", "d", "e", "f", "g", "h", "i", "k", "x", "y"))
        self.assertEqual(steady(("a", ()), ("a", ())), ())
        self.assertEqual(steady(("a", (("b", ()),)), ("a", ())), ())
        self.assertEqual(steady(("a", ()), ("a", (("b", ()),))), ())

    def test_inside_a_moved_parent(self):
        old, new = ("r", (("a", (("b", ()),)), ("c", ()))), ("r", (("c", (("a", (("b", ()),)),)),))
        self.assertEqual(steady(old, new), ("b", "c"))

    def test_steady_children(self):
        expected = {"root": ("a", "h", "i"), "a": ("b", "c", "d"), "e": ("g",)}
        for key in [*keys_of(OLD), *keys_of(NEW), "zz", "A", ""]:
            self.assertEqual(steady_children(OLD, NEW, key), expected.get(key, ()), key)

    def test_steady_children_stand_in_the_order_of_old(self):
        keys = ("d", "a", "c", "b")
        for new in itertools.permutations(keys):
            self.assertEqual(steady_children(flat("r", keys), flat("r", new), "r"), keys)
            self.assertEqual(steady(flat("r", keys), flat("r", new)), ("a", "b", "c", "d"))

    def test_any_value_as_a_parent(self):
        for value in [*any_values(), ("root",), ["root"], ["a"], OLD, b"root"]:
            expected = ("b", "c", "d") if value == "a" else ()
            self.assertEqual(steady_children(OLD, NEW, value), expected, value)

    def test_cross(self):
        crossing = (("a", "i"), ("h", "i"), ("b", "d"), ("c", "d"))
        keys = sorted({*keys_of(OLD), *keys_of(NEW), "zz"})
        for one, other in itertools.product(keys, keys):
            expected = (one, other) in crossing or (other, one) in crossing
            self.assertIs(cross(OLD, NEW, one, other), expected, (one, other))

    def test_any_two_values_cross(self):
        values = [*any_values(), ("a", "i"), ["a"], ("a",), {"a": "i"}]
        for value in values:
            for key in ("a", "i", "root", "x", "m"):
                self.assertIs(cross(OLD, NEW, key, value), False, value)
                self.assertIs(cross(OLD, NEW, value, key), False, value)
            self.assertIs(cross(OLD, NEW, value, value), False, value)
        for one, other in itertools.product(values[:40], values[:40]):
            self.assertIs(cross(OLD, NEW, one, other), False)

    def test_all_small_trees(self):
        trees = all_trees("r", "abc") + all_trees("r", "bcd")[:10]
        for old, new in itertools.product(trees, trees):
            expected = tuple(key for key in "abcd" if model_steady(old, new, key))
            self.assertEqual(steady(old, new), expected)
            for key in "rabcd":
                inner = [each for each in keys_of(old) if each in expected and find_parent(thaw(old), each)[0] == key]
                self.assertEqual(steady_children(old, new, key), tuple(inner))
            for one, other in itertools.product("rabcd", "rabcd"):
                self.assertIs(cross(old, new, one, other), model_cross(old, new, one, other))


class ConflictTest(unittest.TestCase):
    def check(self, expected, keys, old=OLD, new=NEW):
        self.assertEqual(conflict(old, new, keys), expected)
        self.assertIs(can_stay(old, new, keys), expected is None)
        if expected is not None:
            with self.assertRaises(Conflict) as caught:
                patch_with(old, new, keys)
            self.assertEqual(caught.exception.value, expected)

    def check_not_kept(self, value, old=OLD, new=NEW):
        for call in (conflict, can_stay, patch_with):
            with self.assertRaises(NotKept) as caught:
                call(old, new, value)
            self.assertIs(caught.exception.value, value)

    def test_none(self):
        for keys in ((), ("a",), ("i",), ("a", "b", "c", "g", "h"), ("d", "g", "i")):
            self.check(None, keys)

    def test_the_least_that_is_not_steady(self):
        self.check(("e",), ("e",))
        self.check(("e",), ("e", "f", "k"))
        self.check(("f",), ("a", "f", "k"))
        self.check(("k",), ("k",))

    def test_not_steady_goes_ahead_of_crossing(self):
        self.check(("k",), ("a", "i", "k"))
        self.check(("e",), ("b", "d", "e", "i"))

    def test_the_least_pair(self):
        self.check(("a", "i"), ("a", "b", "c", "d", "h", "i"))
        self.check(("b", "d"), ("b", "c", "d", "h", "i"))
        self.check(("c", "d"), ("c", "d", "h", "i"))
        self.check(("h", "i"), ("h", "i"))
        backwards = flat("r", ("d", "b", "c", "a")), flat("r", ("a", "c", "d", "b"))
        self.check(("a", "b"), ("a", "b", "c", "d"), *backwards)
        self.check(("b", "c"), ("b", "c", "d"), *backwards)
        self.check(None, ("b", "d"), *backwards)

    def test_not_kept(self):
        wrong = [("root",), ("root", "a"), ("a", "root"), ("m",), ("a", "m"), ("n",), ("x",), ("x", "y"), ("a", "zz"),
                 ("b", "a"), ("a", "a"), ("a", "c", "b"), ("a", "b", "b"), ("i", "a"), ("A",), ("a", None),
                 ("a", "b", ("c",)), ("a", ["b"]), "a", "ab", {"a": "b"}, ["a"], [], ("a", True), (["a"],), ({},)]
        for value in wrong:
            self.check_not_kept(value)

    def test_not_kept_goes_ahead_of_conflict(self):
        for value in (("e", "x"), ("e", "root"), ("i", "a"), ("k", "e"), ["e"], ("e", "e")):
            self.check_not_kept(value)

    def test_lists(self):
        for value in with_one_list(("a", "b")):
            self.check_not_kept(value)

    def test_any_value(self):
        for value in any_values():
            if value in ((), ("a",), ("a", "b")):
                self.check(None, value)
            else:
                self.check_not_kept(value)
            self.check_not_kept(("a", "b", value))
            if value != ():
                self.check_not_kept(value, ("r", ()), ("r", ()))

    def test_all_small_trees(self):
        trees = all_trees("r", "abc") + all_trees("r", "bcd")[:8]
        for old, new in itertools.product(trees, trees):
            for keys in subsets(keys_in(old) & keys_in(new) - {"r"}):
                self.check(model_conflict(old, new, keys), keys, old, new)


class Patches(unittest.TestCase):
    def check_patch(self, old, new, keys):
        """Check all that point [21] and guarantees (a) and (b) say of a patch."""
        patch = patch_with(old, new, keys)
        self.assertEqual(patch, model_patch(old, new, keys))
        self.assertIs(is_patch(old, new, patch), True)
        self.assertEqual(staying(old, new, patch), keys)
        moves = [step[1] for step in patch if step[0] == "move"]
        self.assertEqual(sorted(moves), [key for key in kept(old, new) if key not in keys])
        self.assertEqual(sorted(step[1] for step in patch if step[0] == "create"), list(created(old, new)))
        for tree in moments(old, patch):
            self.assertEqual(len(keys_of(tree)), len(set(keys_of(tree))))
            self.assertEqual(tree[0], old[0])
        return patch

    def test_the_order_of_operations(self):
        self.assertEqual(self.check_patch(OLD, NEW, ("a", "b", "c", "g", "h")), (
            ("move", "e", "h", None), ("create", "n", "root", "h"), ("move", "f", "n", None),
            ("create", "m", "a", "c"), ("move", "d", "a", "b"), ("move", "k", "root", "a"), ("move", "i", "root", "k"),
            ("remove", "x")))
        self.assertEqual(self.check_patch(OLD, NEW, ()), (
            ("move", "h", "root", None), ("move", "e", "h", None), ("move", "g", "e", None),
            ("create", "n", "root", "h"), ("move", "f", "n", None), ("move", "a", "root", "n"),
            ("move", "c", "a", None), ("create", "m", "a", "c"), ("move", "b", "a", "m"), ("move", "d", "a", "b"),
            ("move", "k", "root", "a"), ("move", "i", "root", "k"), ("remove", "x")))

    def test_removed_elements_in_ascending_order(self):
        old = ("r", (("d", (("a", ()),)), ("c", (("e", (("b", ()),)),)), ("f", ())))
        self.assertEqual(removed(old, ("r", ())), ("a", "b", "c", "d", "e", "f"))
        self.assertEqual(self.check_patch(old, ("r", ()), ()), (("remove", "c"), ("remove", "d"), ("remove", "f")))
        self.assertEqual(self.check_patch(old, ("r", (("e", ()), ("d", ()))), ("d",)), (
            ("move", "e", "r", "d"), ("remove", "a"), ("remove", "b"), ("remove", "c"), ("remove", "f")))

    def test_a_removed_element_inside_a_kept_one_inside_a_removed_one(self):
        old, new = ("r", (("a", (("b", (("c", (("d", ()),)),)),)),)), ("r", (("d", (("b", ()),)),))
        self.assertEqual(self.check_patch(old, new, ()), (
            ("move", "d", "r", None), ("move", "b", "d", None), ("remove", "a"), ("remove", "c")))

    def test_equal_trees(self):
        self.assertEqual(self.check_patch(OLD, OLD, kept(OLD, OLD)), ())
        self.assertEqual(self.check_patch(("a", ()), ("a", ()), ()), ())
        self.assertEqual(self.check_patch(flat("r", "ab"), flat("r", "ab"), ("b",)), (("move", "a", "r", "b"),))

    def test_inside_out(self):
        old, new = chain(20), (key_at(0), ())
        for number in range(1, 20):
            new = (key_at(0), ((key_at(number), new[1]),))
        self.assertEqual(steady(old, new), ())
        self.assertEqual(len(self.check_patch(old, new, ())), 19)

    def test_sets_that_can_stay_and_no_others(self):
        """Guarantee (b), for all patches between small trees."""
        cases = [("abc", "abc", 30), ("abc", "bcd", 8), ("ab", "abc", 4), ("abc", "ab", 8), ("abcd", "abcd", 2),
                 ("ab", "cd", 2)]
        numbers = random.Random(21)
        for old_keys, new_keys, many in cases:
            for old in numbers.sample(all_trees("r", old_keys), many):
                found = all_patches(old, frozenset("r" + new_keys), ())
                for new in all_trees("r", new_keys):
                    both = keys_in(old) & keys_in(new) - {"r"}
                    self.check_small(old, new, both, [both - gone for gone in found[new]])

    def check_small(self, old, new, both, staying_sets):
        for keys in subsets(both):
            expected = any(stays >= set(keys) for stays in staying_sets)
            self.assertIs(can_stay(old, new, keys), expected, (old, new, keys))
            self.assertEqual(set(keys) in staying_sets, expected)
            if expected:
                self.check_patch(old, new, keys)

    def test_large_random_trees(self):
        numbers = random.Random(22)
        for most_nested in (3, 6, 20):
            for _ in range(15):
                old, new = random_pair(numbers, 60, most_nested)
                keys = random_staying(numbers, steady(old, new), lambda wanted: can_stay(old, new, wanted))
                self.check_patch(old, new, keys)
                self.assertEqual(moved(patch_with(old, new, ())), kept(old, new))

    def test_60_elements_backwards(self):
        old, new = wide(60), (key_at(0), wide(60)[1][::-1])
        self.assertEqual(conflict(old, new, kept(old, new)), (key_at(1), key_at(2)))
        for number in (1, 30, 59):
            self.assertEqual(len(self.check_patch(old, new, (key_at(number),))), 58)

    def test_what_was_returned(self):
        creates = tuple(("create", key_at(number + 1), key_at(number), None) for number in range(199))
        old, new = (key_at(0), ()), run((key_at(0), ()), creates)
        self.assertEqual(patch_with(old, new, ()), creates)
        self.assertEqual(patch_with(new, old, ()), (("remove", key_at(1)),))
        self.assertEqual(len(steady(new, new)), 199)
        self.assertIs(can_stay(new, new, keys_of(new)[1:]), True)


class Roots(unittest.TestCase):
    def test_different_roots(self):
        for old, new in ((OLD, ("other", NEW[1])), (("other", ()), NEW), (("a", ()), ("b", (("a", ()),)))):
            self.check(steady, old, new)
            for value in [*any_values(), ("a",), ("zz",), ("e",)]:
                self.check(steady_children, old, new, value)
                self.check(cross, old, new, value, value)
                for call in (conflict, can_stay, patch_with):
                    self.check(call, old, new, value)

    def check(self, call, *arguments):
        with self.assertRaises(DifferentRoots):
            call(*arguments)


if __name__ == "__main__":
    unittest.main()
