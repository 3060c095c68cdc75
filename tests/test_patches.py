"""Points [7], [8], [15] and [16]: patches.py."""

import itertools
import random
import unittest

from helpers import all_operations, all_trees, any_values, chain, key_at, model_fault, wide
from keyedmoves.errors import DifferentRoots
from keyedmoves.operations import run
from keyedmoves.patches import created, fault, is_patch, kept, removed, staying

OLD = ("root", (("a", (("b", ()), ("g", ()))), ("c", ()), ("d", (("e", ()),))))
NEW = ("root", (("c", ()), ("n", (("a", (("b", ()),)),)), ("m", ())))
PATCH = (("create", "n", "root", "d"), ("move", "a", "n", None), ("remove", "g"), ("create", "m", "root", None),
         ("remove", "d"))


class Fault(unittest.TestCase):
    def check(self, expected, operations, old=OLD, new=NEW):
        self.assertEqual(fault(old, new, operations), expected)
        self.assertIs(is_patch(old, new, operations), expected is None)

    def test_a_patch(self):
        self.check(None, PATCH)
        self.check(None, (), OLD, OLD)
        self.check(None, (), ("a", ()), ("a", ()))
        self.check(None, (("move", "b", "a", "g"),), OLD, OLD)

    def test_not_possible(self):
        self.check(0, (("move", "x", "root", None),))
        self.check(5, (*PATCH, ("remove", "d")))
        self.check(1, (PATCH[0], ("move", "a", "g", None), *PATCH[2:]))
        self.check(0, (("remove", "root"),))

    def test_creates_what_it_must_not(self):
        self.check(0, (("create", "x", "root", None), ("remove", "x"), *PATCH))
        self.check(5, (*PATCH, ("create", "x", "root", None), ("remove", "x")))
        self.check(5, (*PATCH, ("create", "g", "root", None)))
        self.check(5, (*PATCH, ("create", "g", "root", None), ("remove", "g")))

    def test_creates_twice(self):
        self.check(1, (PATCH[0], *PATCH))
        self.check(1, (PATCH[0], ("remove", "n"), *PATCH))

    def test_removes_what_it_must_not(self):
        self.check(0, (("remove", "c"), ("create", "c", "root", None)))
        self.check(0, (("remove", "a"),))
        self.check(1, (PATCH[0], ("remove", "n"), PATCH[0]))

    def test_removes_what_it_must_not_inside_another_one(self):
        self.check(1, (("move", "c", "e", None), ("remove", "d")))
        self.check(2, (("create", "m", "e", None), ("move", "a", "root", None), ("remove", "d")))
        self.check(1, (("move", "b", "g", None), ("remove", "g")))

    def test_removes_several_at_once(self):
        self.check(None, (("remove", "d"), ("move", "a", "root", None)), OLD, ("root", (("c", ()), OLD[1][0])))
        self.check(None, (("move", "d", "g", None), ("remove", "g")), OLD, ("root", (("a", (("b", ()),)), ("c", ()))))

    def test_does_not_lead_to_new(self):
        self.check(4, PATCH[:4])
        self.check(0, ())
        self.check(6, (*PATCH, ("move", "c", "root", None)))
        self.check(6, (*PATCH, ("move", "b", "root", None)))

    def test_the_first_fault_counts(self):
        self.check(1, (PATCH[0], ("remove", "c"), ("remove", "x"), ("create", "x", "root", None)))
        self.check(1, (PATCH[0], ("create", "x", "root", None), ("remove", "c")))

    def test_order_and_nesting_count(self):
        small = all_trees("r", "abc")
        for old, new in itertools.product(small, small):
            self.check(None if old == new else 0, (), old, new)

    def test_at_most_400_operations(self):
        old, new = ("r", (("a", ()), ("b", ()))), ("r", (("b", ()), ("a", ())))
        steps = (("move", "a", "r", None),) * 401
        self.check(None, steps[:400], old, new)
        self.assertIs(is_patch(old, new, steps), False)
        self.assertEqual(fault(old, new, steps), 401)
        self.check(400, steps[:399] + (("move", "b", "r", None),), old, new)
        self.check(399, steps[:399] + (("remove", "b"),), old, new)

    def test_two_steps_as_the_model(self):
        choices = all_operations(["r", "a", "b", "c"])
        pairs = [(("r", (("a", ()), ("b", ()))), ("r", (("c", (("a", ()),)),))),
                 (("r", (("b", (("a", ()),)),)), ("r", (("a", ()), ("c", ())))),
                 (("r", ()), ("r", (("a", ()), ("b", ()))))]
        for old, new in pairs:
            for steps in itertools.product(choices, choices):
                self.assertEqual(fault(old, new, steps), model_fault(old, new, steps), (old, new, steps))

    def test_many_steps_as_the_model(self):
        numbers = random.Random(11)
        choices = all_operations(["r", "a", "b", "c", "d"])
        trees = all_trees("r", "ab") + all_trees("r", "abc") + all_trees("r", "acd")
        for _ in range(3000):
            old, new = numbers.choice(trees), numbers.choice(trees)
            steps = []
            for _ in range(6):
                step = numbers.choice(choices)
                if model_fault(old, new, (*steps, step)) in (None, len(steps) + 1):
                    steps.append(step)
            steps = tuple(steps)
            self.check(model_fault(old, new, steps), steps, old, new)
            self.check(model_fault(old, new, (*steps, step)), (*steps, step), old, new)


class IsPatch(unittest.TestCase):
    def test_any_value(self):
        for value in any_values():
            self.assertIs(is_patch(OLD, NEW, value), False, value)
            self.assertIs(is_patch(OLD, OLD, value), value == (), value)
            self.assertIs(is_patch(OLD, NEW, (*PATCH, value)), False, value)

    def test_lists_are_not_tuples(self):
        self.assertIs(is_patch(OLD, NEW, PATCH), True)
        self.assertIs(is_patch(OLD, NEW, list(PATCH)), False)
        self.assertIs(is_patch(OLD, NEW, (list(PATCH[0]), *PATCH[1:])), False)
        self.assertIs(is_patch(OLD, OLD, []), False)


class Sorts(unittest.TestCase):
    """Which elements are kept, created, removed and staying."""

    def test_sorts(self):
        self.assertEqual(kept(OLD, NEW), ("a", "b", "c"))
        self.assertEqual(created(OLD, NEW), ("m", "n"))
        self.assertEqual(removed(OLD, NEW), ("d", "e", "g"))

    def test_ascending(self):
        old = ("r", (("z", ()), ("b", (("y", ()), ("a", ()))), ("q", ()), ("c", ())))
        new = ("r", (("x", (("d", ()),)), ("a", ()), ("z", ()), ("e", (("b", ()),))))
        self.assertEqual(kept(old, new), ("a", "b", "z"))
        self.assertEqual(created(old, new), ("d", "e", "x"))
        self.assertEqual(removed(old, new), ("c", "q", "y"))

    def test_only_the_root(self):
        for old, new, expected in ((("r", ()), ("r", ()), ((), (), ())),
                                   (("r", ()), ("r", (("a", ()),)), ((), ("a",), ())),
                                   (("r", (("a", ()),)), ("r", ()), ((), (), ("a",)))):
            self.assertEqual((kept(old, new), created(old, new), removed(old, new)), expected)

    def test_staying(self):
        self.assertEqual(staying(OLD, NEW, PATCH), ("b", "c"))
        self.assertEqual(staying(OLD, NEW, ()), ("a", "b", "c"))
        self.assertEqual(staying(OLD, NEW, (("create", "a", "c", "b"), ("remove", "c"))), ("a", "b", "c"))
        self.assertEqual(staying(OLD, NEW, (("move", "d", "c", "b"), ("move", "n", "a", None))), ("a", "b", "c"))
        self.assertEqual(staying(OLD, NEW, (("move", "c", "a", "b"), ("move", "c", "b", None))), ("a", "b"))
        self.assertEqual(staying(OLD, NEW, tuple(("move", key, "d", None) for key in "cba")), ())


class Roots(unittest.TestCase):
    def test_different_roots(self):
        other = ("other", OLD[1])
        for call in (kept, created, removed):
            for old, new in ((OLD, other), (other, OLD), (OLD, ("a", ())), (("a", ()), OLD)):
                with self.assertRaises(DifferentRoots):
                    call(old, new)
        for call in (fault, is_patch, staying):
            for operations in ((), PATCH, (("remove", "x"),)):
                with self.assertRaises(DifferentRoots):
                    call(OLD, other, operations)

    def test_ahead_of_a_value_that_is_no_patch(self):
        for value in [*any_values(), [], (PATCH[0],) * 401]:
            with self.assertRaises(DifferentRoots):
                is_patch(OLD, ("other", ()), value)


class LargeTrees(unittest.TestCase):
    def test_60_elements(self):
        old, new = wide(60), (key_at(0), wide(60)[1][::-1])
        steps = tuple(("move", key_at(number), key_at(0), key_at(number + 1)) for number in range(1, 59))
        self.assertEqual(fault(old, old, steps), None)
        self.assertEqual(fault(old, new, steps), 58)
        backwards = tuple(("move", key_at(number), key_at(0), None) for number in reversed(range(1, 60)))
        self.assertIs(is_patch(old, new, backwards), True)
        self.assertEqual(len(kept(old, new)), 59)

    def test_200_nested_between_operations(self):
        creates = tuple(("create", key_at(number + 1), key_at(number), None) for number in range(199))
        self.assertEqual(run((key_at(0), ()), creates), chain(200))
        self.assertEqual(fault((key_at(0), ()), chain(200), creates), None)
        self.assertEqual(fault((key_at(0), ()), chain(199), creates), 198)
        self.assertEqual(fault((key_at(0), ()), chain(200), creates[:198]), 198)
        self.assertEqual(len(created((key_at(0), ()), chain(200))), 199)


if __name__ == "__main__":
    unittest.main()
