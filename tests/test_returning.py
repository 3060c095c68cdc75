"""Point [25] and guarantee (f): returning.py."""

import itertools
import random
import unittest

from helpers import all_trees, any_values, chain, flat, key_at, wide, with_one_list, with_one_other
from keyedmoves.cheapest import cheapest_patch, least_cost
from keyedmoves.errors import DifferentRoots, NotPatch, TooDear
from keyedmoves.operations import cost_of, moved, run
from keyedmoves.patches import is_patch, kept, staying
from keyedmoves.returning import batched, joined, way_back
from keyedmoves.staying import can_stay, patch_with, steady
from keyedmoves.trees import keys_of
from randoms import random_costs, random_pair, random_patch, random_staying
from search import keys_in

OLD = ("root", (("a", (("b", ()), ("g", ()))), ("c", ()), ("d", (("e", ()),))))
MIDDLE = ("root", (("c", ()), ("n", (("a", (("b", ()),)),)), ("m", ())))
NEW = ("root", (("m", ()), ("c", ()), ("d", ()), ("n", (("b", ()), ("a", ())))))
FIRST = (("create", "n", "root", "d"), ("move", "a", "n", None), ("remove", "g"), ("create", "m", "root", None),
         ("remove", "d"))
SECOND = (("move", "m", "root", "c"), ("move", "b", "n", "a"), ("create", "d", "root", "n"))
# Two elements that change places, and the two shortest patches for it.
LEFT, RIGHT = flat("root", "ab"), flat("root", "ba")
TURN = (("move", "a", "root", None),)


class ReturningTest(unittest.TestCase):
    def check_raises(self, error, call, *arguments):
        with self.assertRaises(error) as caught:
            call(*arguments)
        return caught.exception

    def check_moves_once(self, patch, keys):
        """Check that a patch moves these elements and no others, each once."""
        self.assertEqual(sorted(step[1] for step in patch if step[0] == "move"), sorted(keys))


class WayBack(ReturningTest):
    def check(self, old, new, operations):
        back = way_back(old, new, operations)
        self.assertIs(is_patch(new, old, back), True)
        self.assertEqual(back, patch_with(new, old, staying(old, new, operations)))
        self.check_moves_once(back, set(moved(operations)) & set(kept(old, new)))
        return back

    def test_the_very_operations(self):
        self.assertEqual(self.check(OLD, MIDDLE, FIRST), (
            ("create", "d", "root", None), ("create", "e", "d", None), ("move", "a", "root", "c"),
            ("create", "g", "a", None), ("remove", "m"), ("remove", "n")))
        self.assertEqual(self.check(MIDDLE, NEW, SECOND), (
            ("move", "m", "root", None), ("move", "b", "a", None), ("remove", "d")))

    def test_nothing_to_do(self):
        for tree in (OLD, ("r", ()), wide(60), chain(20)):
            self.assertEqual(self.check(tree, tree, ()), ())

    def test_a_move_to_its_own_place_is_moved_back(self):
        self.assertEqual(self.check(OLD, OLD, (("move", "d", "root", None),)), (("move", "d", "root", None),))

    def test_an_element_that_is_moved_twice_is_moved_back_once(self):
        self.assertEqual(self.check(LEFT, RIGHT, TURN * 3), (("move", "a", "root", "b"),))
        self.assertEqual(len(self.check(LEFT, RIGHT, (*TURN, ("move", "b", "a", None), ("move", "b", "root", "a")))), 2)

    def test_created_and_removed_elements_that_are_moved(self):
        old, new = ("r", (("a", ()), ("b", ()))), ("r", (("n", ()), ("b", ())))
        steps = (("create", "n", "a", None), ("move", "a", "b", None), ("move", "n", "r", "b"), ("remove", "a"))
        self.assertEqual(self.check(old, new, steps), (("create", "a", "r", "b"), ("remove", "n")))

    def test_another_patch_moves_back_others(self):
        self.assertEqual(self.check(LEFT, RIGHT, TURN), (("move", "a", "root", "b"),))
        self.assertEqual(self.check(LEFT, RIGHT, (("move", "b", "root", "a"),)), (("move", "b", "root", None),))

    def test_60_elements_and_20_nested(self):
        old, new = wide(60), (key_at(0), wide(60)[1][::-1])
        self.assertEqual(len(self.check(old, new, patch_with(old, new, (key_at(30),)))), 58)
        self.assertEqual(len(self.check((key_at(0), ()), chain(20), cheapest_patch((key_at(0), ()), chain(20), ()))), 1)
        self.assertEqual(len(self.check(chain(20), (key_at(0), ()), (("remove", key_at(1)),))), 19)

    def test_400_and_401_operations(self):
        self.check(LEFT, RIGHT, TURN * 399)
        steps = (*TURN * 399, ("move", "b", "root", "a"))
        self.check(LEFT, RIGHT, steps)
        for wrong in (TURN * 401, (*steps, ("move", "b", "root", "a"))):
            self.assertIs(self.check_raises(NotPatch, way_back, LEFT, RIGHT, wrong).value, wrong)

    def test_200_nested(self):
        creates = tuple(("create", key_at(number + 1), key_at(number), None) for number in range(199))
        deep = run((key_at(0), ()), creates)
        self.assertEqual(way_back((key_at(0), ()), deep, creates), (("remove", key_at(1)),))
        self.assertEqual(way_back(deep, (key_at(0), ()), (("remove", key_at(1)),)), creates)

    def test_random_patches(self):
        numbers = random.Random(25)
        for most_nested in (2, 4, 20):
            for _ in range(15):
                old, _ = random_pair(numbers, 30, most_nested)
                steps = random_patch(numbers, old, 12)
                self.check(old, run(old, steps), steps)

    def test_there_and_back_again(self):
        numbers = random.Random(26)
        for _ in range(15):
            old, new = random_pair(numbers, 40)
            keys = random_staying(numbers, steady(old, new), lambda wanted: can_stay(old, new, wanted))
            patch = patch_with(old, new, keys)
            self.assertEqual(way_back(new, old, self.check(old, new, patch)), patch)

    def test_any_value(self):
        for value in any_values():
            if value != ():
                self.assertIs(self.check_raises(NotPatch, way_back, OLD, MIDDLE, value).value, value)
                self.assertIs(self.check_raises(NotPatch, way_back, OLD, OLD, value).value, value)

    def test_values_that_are_almost_patches(self):
        wrong = [(), FIRST[:-1], FIRST[1:], FIRST[::-1], (*FIRST, FIRST[-1]), SECOND, (*FIRST, ("remove", "c")),
                 (("remove", "c"), ("create", "c", "root", "a"), *FIRST), [FIRST], list(FIRST), (FIRST,), FIRST[0],
                 (*FIRST, ("create", "x", "root", None), ("remove", "x"))]
        wrong += list(with_one_list(FIRST))
        for value in wrong:
            self.assertIs(self.check_raises(NotPatch, way_back, OLD, MIDDLE, value).value, value)

    def test_any_value_in_any_place(self):
        for other in any_values():
            for value in with_one_other(TURN, [other]):
                if value != TURN:
                    self.assertIs(self.check_raises(NotPatch, way_back, LEFT, RIGHT, value).value, value)

    def test_different_roots_go_ahead(self):
        for value in [FIRST, (), *any_values()]:
            self.check_raises(DifferentRoots, way_back, OLD, ("other", MIDDLE[1]), value)


class Joined(ReturningTest):
    def check(self, old, middle, new, first, second):
        patch = joined(old, middle, new, first, second)
        self.assertIs(is_patch(old, new, patch), True)
        in_all = keys_in(old) & keys_in(middle) & keys_in(new) - {old[0]}
        stays = tuple(sorted(in_all - set(moved(first)) - set(moved(second))))
        self.assertEqual(patch, patch_with(old, new, stays))
        self.assertEqual(staying(old, new, patch), stays)
        self.check_moves_once(patch, set(kept(old, new)) - set(stays))
        return patch

    def test_the_very_operations(self):
        self.assertEqual(self.check(OLD, MIDDLE, NEW, FIRST, SECOND), (
            ("create", "n", "root", None), ("move", "a", "n", None), ("move", "b", "n", "a"),
            ("move", "d", "root", "n"), ("create", "m", "root", "c"), ("remove", "e"), ("remove", "g")))

    def test_an_element_that_the_middle_tree_lacks_is_moved(self):
        old, middle = flat("r", "ab"), flat("r", "b")
        patch = self.check(old, middle, old, (("remove", "a"),), (("create", "a", "r", "b"),))
        self.assertEqual(patch, (("move", "a", "r", "b"),))

    def test_an_element_that_only_the_middle_tree_has(self):
        old, middle = flat("r", "a"), flat("r", "ab")
        self.assertEqual(self.check(old, middle, old, (("create", "b", "r", None),), (("remove", "b"),)), ())

    def test_elements_that_one_patch_moves(self):
        same = flat("root", "abc")
        for first, second, moves in (((), (), ()), ((("move", "c", "root", None),), (), "c"),
                                     ((), (("move", "b", "root", "c"),), "b"),
                                     ((("move", "a", "root", "b"),), (("move", "c", "root", None),), "ac"),
                                     ((("move", "a", "root", "b"),), (("move", "a", "root", "b"),), "a")):
            self.check_moves_once(self.check(same, same, same, first, second), moves)

    def test_there_and_back(self):
        back = (("move", "a", "root", "b"),)
        self.assertEqual(self.check(LEFT, RIGHT, LEFT, TURN, back), back)
        patch = self.check(LEFT, RIGHT, LEFT, TURN, (("move", "b", "root", None),))
        self.assertEqual(patch, (("move", "b", "root", None), ("move", "a", "root", "b")))

    def test_only_roots(self):
        self.assertEqual(self.check(("r", ()), ("r", ()), ("r", ()), (), ()), ())

    def test_60_elements_and_400_operations(self):
        old, new = wide(60), (key_at(0), wide(60)[1][::-1])
        there = patch_with(old, new, (key_at(30),))
        self.assertEqual(len(self.check(old, new, old, there, way_back(old, new, there))), 58)
        steps = (("move", "a", "root", None), ("move", "b", "root", None)) * 200
        self.check(LEFT, LEFT, LEFT, steps, steps)
        too_many = (*TURN * 2, *steps[1:])
        self.assertIs(self.check_raises(NotPatch, joined, LEFT, LEFT, LEFT, too_many, steps).value, too_many)
        self.assertIs(self.check_raises(NotPatch, joined, LEFT, LEFT, LEFT, steps, too_many).value, too_many)

    def test_random_patches(self):
        numbers = random.Random(27)
        for most_nested in (2, 4, 20):
            for _ in range(15):
                old, _ = random_pair(numbers, 30, most_nested)
                first = random_patch(numbers, old, 8)
                middle = run(old, first)
                second = random_patch(numbers, middle, 8)
                self.check(old, middle, run(middle, second), first, second)

    def test_different_roots(self):
        other = ("other", ())
        for value in [FIRST, SECOND, (), *any_values()]:
            for trees in ((other, MIDDLE, NEW), (OLD, other, NEW), (OLD, MIDDLE, other), (OLD, other, other),
                          (other, other, NEW), (other, MIDDLE, other), (("x", ()), ("y", ()), ("z", ()))):
                self.check_raises(DifferentRoots, joined, *trees, value, SECOND)
                self.check_raises(DifferentRoots, joined, *trees, FIRST, value)
                self.check_raises(DifferentRoots, joined, *trees, value, value)

    def test_any_value(self):
        for value in any_values():
            for arguments in ((value, SECOND), (FIRST, value), (value, None), (value, ()), (value, value)):
                error = self.check_raises(NotPatch, joined, OLD, MIDDLE, NEW, *arguments)
                self.assertIs(error.value, value)

    def test_the_first_of_both(self):
        wrong, other = [], {}
        self.assertIs(self.check_raises(NotPatch, joined, OLD, MIDDLE, NEW, wrong, other).value, wrong)
        self.assertIs(self.check_raises(NotPatch, joined, OLD, MIDDLE, NEW, SECOND, FIRST).value, SECOND)
        self.assertIs(self.check_raises(NotPatch, joined, OLD, MIDDLE, NEW, FIRST, FIRST).value, FIRST)
        self.assertIs(self.check_raises(NotPatch, joined, OLD, MIDDLE, NEW, SECOND, SECOND).value, SECOND)

    def test_lists(self):
        for value in with_one_list(FIRST):
            self.assertIs(self.check_raises(NotPatch, joined, OLD, MIDDLE, NEW, value, SECOND).value, value)
        for value in with_one_list(SECOND):
            self.assertIs(self.check_raises(NotPatch, joined, OLD, MIDDLE, NEW, FIRST, value).value, value)


class AllSmallTrees(ReturningTest):
    """Guarantee (f) for all trees of a few elements."""

    def test_the_least_cost_of_the_way_back(self):
        trees = all_trees("r", "abc") + all_trees("r", "bcd")[:10]
        for old, new in itertools.combinations(trees, 2):
            for costs in ((), (("a", 3), ("b", 2), ("d", 7))):
                there = least_cost(old, new, costs)
                self.assertEqual(least_cost(new, old, costs), there)
                back = way_back(old, new, cheapest_patch(old, new, costs))
                self.assertEqual(cost_of(back, costs), there)

    def test_by_way_of_a_third_tree(self):
        costs = (("a", 3), ("c", 2))
        trees = all_trees("r", "abc")
        least = {(old, new): least_cost(old, new, costs) for old, new in itertools.product(trees, trees)}
        for old, middle, new in itertools.product(trees, trees, trees):
            self.assertLessEqual(least[old, new], least[old, middle] + least[middle, new])

    def test_by_way_of_a_third_large_tree(self):
        numbers = random.Random(28)
        keys = [key_at(number) for number in range(40)]
        for _ in range(15):
            costs = random_costs(numbers, keys, (1, 2, 1000))
            trees = [flat(keys[0], keys[1:])]
            for _ in range(2):
                trees.append(run(trees[-1], random_patch(numbers, trees[-1], 15, ("move",))))
            old, middle, new = trees
            first, second = cheapest_patch(old, middle, costs), cheapest_patch(middle, new, costs)
            whole = joined(old, middle, new, first, second)
            self.assertLessEqual(least_cost(old, new, costs), cost_of(whole, costs))
            self.assertLessEqual(cost_of(whole, costs), cost_of(first, costs) + cost_of(second, costs))
            self.assertEqual(least_cost(old, middle, costs), least_cost(middle, old, costs))

    def test_joined_patches_move_nothing_more(self):
        trees = all_trees("r", "abc") + all_trees("r", "bcd")[:5] + all_trees("r", "ab")
        numbers = random.Random(29)
        for _ in range(1500):
            old, middle, new = numbers.choice(trees), numbers.choice(trees), numbers.choice(trees)
            first, second = cheapest_patch(old, middle, ()), cheapest_patch(middle, new, ())
            patch = joined(old, middle, new, first, second)
            self.assertIs(is_patch(old, new, patch), True)
            in_all = keys_in(old) & keys_in(middle) & keys_in(new)
            self.assertLessEqual(set(moved(patch)) & in_all, set(moved(first)) | set(moved(second)))


def all_cuts(steps):
    """Return every way to cut steps into consecutive parts, none of them empty."""
    if not steps:
        return [()]
    return [(steps[:many], *rest) for many in range(1, len(steps) + 1) for rest in all_cuts(steps[many:])]


class Batched(ReturningTest):
    MOVE_A, MOVE_B, MOVE_C = [("move", key, "r", None) for key in "abc"]
    CREATE, REMOVE = ("create", "x", "r", None), ("remove", "y")
    COSTS = (("a", 3), ("b", 2), ("r", 1000), ("x", 1000), ("y", 1000))

    def check(self, expected, operations, costs, most):
        parts = batched(operations, costs, most)
        self.assertEqual(parts, expected)
        self.assertEqual(tuple(step for part in parts for step in part), operations)

    def test_no_parts(self):
        for most in (1, 2, 1000, 10 ** 9):
            self.check((), (), (), most)
            self.check((), (), self.COSTS, most)

    def test_limits(self):
        steps = (self.MOVE_A, self.MOVE_B, self.MOVE_C, self.MOVE_A)
        a, b, c = self.MOVE_A, self.MOVE_B, self.MOVE_C
        self.check(((a,), (b, c), (a,)), steps, self.COSTS, 3)
        self.check(((a,), (b, c), (a,)), steps, self.COSTS, 4)
        self.check(((a, b), (c, a)), steps, self.COSTS, 5)
        self.check(((a, b, c), (a,)), steps, self.COSTS, 6)
        self.check(((a, b, c), (a,)), steps, self.COSTS, 8)
        self.check((steps,), steps, self.COSTS, 9)
        self.check((steps,), steps, self.COSTS, 10 ** 9)

    def test_a_limit_of_1(self):
        steps = (self.CREATE, self.MOVE_A, self.REMOVE, self.MOVE_B, self.CREATE)
        self.check((steps[:3], steps[3:]), steps, (), 1)
        self.check((steps,), steps, (), 2)
        self.check(((self.MOVE_A,),) * 400, (self.MOVE_A,) * 400, (("a", 1),), 1)
        self.check(((self.MOVE_A,) * 399, (self.MOVE_A,)), (self.MOVE_A,) * 400, (), 399)

    def test_what_costs_nothing_stands_in_the_earlier_part(self):
        steps = (self.CREATE, self.REMOVE, self.MOVE_A, self.CREATE, self.REMOVE, self.MOVE_A, self.REMOVE)
        self.check((steps[:5], steps[5:]), steps, self.COSTS, 3)
        self.check(((self.CREATE,) * 400,), (self.CREATE,) * 400, self.COSTS, 1)

    def test_costs_1_and_1000(self):
        steps = (self.MOVE_A, self.MOVE_B, self.MOVE_A)
        self.check((steps[:2], steps[2:]), steps, (("a", 1000),), 1001)
        self.check((steps[:1], steps[1:2], steps[2:]), steps, (("a", 1000),), 1000)
        self.check((steps,), steps, (("a", 1000),), 2001)
        self.assertEqual(self.check_raises(TooDear, batched, steps, (("a", 1000),), 999).key, "a")

    def test_too_dear(self):
        steps = (self.CREATE, self.MOVE_C, self.MOVE_B, self.MOVE_A, self.MOVE_B)
        for most, expected in ((1, "b"), (2, "a")):
            self.assertEqual(self.check_raises(TooDear, batched, steps, self.COSTS, most).key, expected)
        self.check((steps[:3], steps[3:4], steps[4:]), steps, self.COSTS, 3)
        self.assertEqual(self.check_raises(TooDear, batched, (self.MOVE_A,) * 400, self.COSTS, 2).key, "a")
        last = (self.MOVE_C,) * 399 + (self.MOVE_B,)
        self.assertEqual(self.check_raises(TooDear, batched, last, self.COSTS, 1).key, "b")

    def test_only_moves_are_too_dear(self):
        self.check(((self.CREATE, self.REMOVE),), (self.CREATE, self.REMOVE), self.COSTS, 1)

    def test_limits_below_1(self):
        """The document begins with 1, and names no error for less than that but TooDear, for moves."""
        steps = (self.CREATE, self.REMOVE)
        self.check((steps,), steps, self.COSTS, 0)
        self.check((steps[:1], steps[1:]), steps, self.COSTS, -1)
        for most in (0, -1):
            self.assertEqual(self.check_raises(TooDear, batched, (*steps, self.MOVE_C), (), most).key, "c")

    def test_all_cuts_of_a_few_operations(self):
        choices = (self.MOVE_A, self.MOVE_B, self.MOVE_C, self.CREATE)
        for many in range(6):
            for steps in itertools.product(choices, repeat=many):
                for most in (3, 4, 5):
                    cuts = [cut for cut in all_cuts(steps) if all(cost_of(part, self.COSTS) <= most for part in cut)]
                    fewest = min(len(cut) for cut in cuts)
                    best = max((cut for cut in cuts if len(cut) == fewest), key=lambda cut: [len(part) for part in cut])
                    self.check(best, steps, self.COSTS, most)

    def test_a_cheapest_patch_in_batches(self):
        numbers = random.Random(30)
        for most in (3, 4, 7, 50):
            old, new = random_pair(numbers, 60)
            costs = random_costs(numbers, keys_of(old), (1, 2, 3))[:-1]
            patch = cheapest_patch(old, new, costs)
            parts = batched(patch, costs, most)
            self.assertEqual(sum(cost_of(part, costs) for part in parts), least_cost(old, new, costs))
            tree = old
            for part in parts:
                self.assertLessEqual(cost_of(part, costs), most)
                tree = run(tree, part)
            self.assertEqual(tree, new)
            for part, following in zip(parts, parts[1:]):
                self.assertGreater(cost_of((*part, following[0]), costs), most)


if __name__ == "__main__":
    unittest.main()
