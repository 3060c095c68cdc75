"""Points [6], [9], [13] and [14]: operations.py."""

import random
import unittest

from helpers import all_operations, all_trees, any_values, chain, key_at, model_step, wide
from keyedmoves.errors import BadOperations, Impossible
from keyedmoves.operations import are_costs, are_operations, cost_of, moments, moved, run
from keyedmoves.trees import is_tree, keys_of, path_of

TREE = ("root", (("a", (("b", ()), ("c", ()))), ("d", ())))
MOVE = ("move", "a", "b", None)


class AreOperations(unittest.TestCase):
    def test_operations(self):
        right = [(), (MOVE,), (MOVE, MOVE), (("create", "a", "b", "c"),), (("create", "a", "b", None),),
                 (("move", "a", "b", "c"),), (("remove", "a"),), (("remove", "a"), MOVE, ("create", "x", "y", "z")),
                 (("move", "a", "a", "a"),), (("create", "abcdefgh", "move", "remove"),)]
        for value in right:
            self.assertIs(are_operations(value), True, value)

    def test_at_most_400(self):
        self.assertIs(are_operations((MOVE,) * 399), True)
        self.assertIs(are_operations((MOVE,) * 400), True)
        self.assertIs(are_operations((MOVE,) * 401), False)

    def test_wrong_operations(self):
        wrong = [MOVE, "move", ("move", "a", "b"), ("move", "a", "b", None, None), ("move", "a"), ("create", "a"),
                 ("create", "a", "b"), ("remove",), ("remove", "a", "b"), ("remove", "a", "b", None),
                 ("remove", "a", None), ("Move", "a", "b", None), ("", "a", "b", None), (None, "a"), ("delete", "a"),
                 ("move", "A", "b", None), ("move", "a", "B", None), ("move", "a", "b", "C"), ("move", "a", "b", ""),
                 ("move", "a", "b", False), ("move", "a", "b", 0), ("move", "a", "b", ()), ("move", "a", None, None),
                 ("move", None, "b", None), ("create", "abcdefghi", "b", None), ("create", "a", "abcdefghi", None),
                 ("create", "a", "b", "abcdefghi"), ("create", ["a"], "b", None), ("create", "a", {}, None),
                 ("create", "a", "b", ["c"]), ("remove", None), ("remove", ""), ("remove", "A"), ("remove", ["a"]),
                 ["remove", "a"], ["move", "a", "b", None], (["move"], "a", "b", None), ({}, "a"), {"remove": "a"}]
        for value in wrong[1:]:
            self.assertIs(are_operations((value,)), False, value)
            self.assertIs(are_operations((MOVE, value)), False, value)
        self.assertIs(are_operations(MOVE), False)

    def test_lists_are_not_tuples(self):
        self.assertIs(are_operations([]), False)
        self.assertIs(are_operations([MOVE]), False)
        self.assertIs(are_operations((list(MOVE),)), False)

    def test_any_value(self):
        for value in any_values():
            self.assertIs(are_operations(value), value == (), value)
            self.assertIs(are_operations((value,)), False, value)
            self.assertIs(are_operations((("move", value, "a", None),)), False, value)
            self.assertIs(are_operations((("move", "a", value, None),)), False, value)
            self.assertIs(are_operations((("move", "a", "b", value),)), value is None, value)
            self.assertIs(are_operations(((value, "a", "b", None),)), False, value)
            self.assertIs(are_operations(((value, "a"),)), False, value)


class EachOperation(unittest.TestCase):
    def after(self, *operation):
        return run(TREE, (operation,))

    def impossible(self, *operation):
        with self.assertRaises(Impossible) as caught:
            run(TREE, (operation,))
        self.assertEqual(caught.exception.index, 0)

    def test_create(self):
        a, d = TREE[1]
        self.assertEqual(self.after("create", "x", "root", None), ("root", (a, d, ("x", ()))))
        self.assertEqual(self.after("create", "x", "root", "a"), ("root", (("x", ()), a, d)))
        self.assertEqual(self.after("create", "x", "root", "d"), ("root", (a, ("x", ()), d)))
        self.assertEqual(self.after("create", "x", "d", None), ("root", (a, ("d", (("x", ()),)))))

    def test_create_that_is_impossible(self):
        self.impossible("create", "a", "root", None)
        self.impossible("create", "root", "a", None)
        self.impossible("create", "x", "x", None)
        self.impossible("create", "x", "y", None)
        self.impossible("create", "x", "root", "y")
        self.impossible("create", "x", "root", "b")
        self.impossible("create", "x", "root", "root")
        self.impossible("create", "x", "root", "x")

    def test_move(self):
        a, d = TREE[1]
        self.assertEqual(self.after("move", "a", "root", None), ("root", (d, a)))
        self.assertEqual(self.after("move", "d", "root", "a"), ("root", (d, a)))
        self.assertEqual(self.after("move", "a", "d", None), ("root", (("d", (a,)),)))
        self.assertEqual(self.after("move", "c", "a", "b"), ("root", (("a", (("c", ()), ("b", ()))), d)))
        self.assertEqual(self.after("move", "c", "b", None), ("root", (("a", (("b", (("c", ()),)),)), d)))

    def test_move_to_its_own_place(self):
        self.assertEqual(self.after("move", "a", "root", "d"), TREE)
        self.assertEqual(self.after("move", "d", "root", None), TREE)
        self.assertEqual(self.after("move", "b", "a", "c"), TREE)

    def test_move_that_is_impossible(self):
        self.impossible("move", "x", "root", None)
        self.impossible("move", "a", "x", None)
        self.impossible("move", "root", "a", None)
        self.impossible("move", "root", "root", None)
        self.impossible("move", "a", "a", None)
        self.impossible("move", "a", "b", None)
        self.impossible("move", "a", "root", "a")
        self.impossible("move", "a", "root", "b")
        self.impossible("move", "a", "root", "x")
        self.impossible("move", "a", "root", "root")

    def test_remove(self):
        a, d = TREE[1]
        self.assertEqual(self.after("remove", "a"), ("root", (d,)))
        self.assertEqual(self.after("remove", "b"), ("root", (("a", (("c", ()),)), d)))
        self.assertEqual(run(TREE, (("remove", "a"), ("create", "b", "root", None))), ("root", (d, ("b", ()))))

    def test_remove_that_is_impossible(self):
        self.impossible("remove", "root")
        self.impossible("remove", "x")

    def test_every_operation_on_every_small_tree(self):
        for tree in all_trees("r", "abc"):
            for operation in all_operations(["r", "a", "b", "c", "x"]):
                expected = model_step(tree, operation)
                if expected is None:
                    with self.assertRaises(Impossible, msg=(tree, operation)):
                        run(tree, (operation,))
                else:
                    self.assertEqual(run(tree, (operation,)), expected, (tree, operation))


class Run(unittest.TestCase):
    def test_bad_operations(self):
        for value in [value for value in any_values() if value != ()] + [[MOVE], (MOVE,) * 401, (MOVE, None)]:
            for function in (run, moments):
                with self.assertRaises(BadOperations) as caught:
                    function(TREE, value)
                self.assertIs(caught.exception.value, value)

    def test_bad_operations_ahead_of_impossible(self):
        for function in (run, moments):
            with self.assertRaises(BadOperations):
                function(TREE, (("remove", "x"), ("remove", "X")))
            with self.assertRaises(BadOperations):
                function(TREE, (("remove", "x"),) * 401)

    def test_the_first_one_that_is_impossible(self):
        steps = (("move", "d", "a", "c"), ("move", "a", "d", None), ("remove", "root"))
        for function in (run, moments):
            with self.assertRaises(Impossible) as caught:
                function(TREE, steps)
            self.assertEqual(caught.exception.index, 1)
            with self.assertRaises(Impossible) as caught:
                function(TREE, (("remove", "a"),) * 400)
            self.assertEqual(caught.exception.index, 1)

    def test_no_operations(self):
        self.assertEqual(run(TREE, ()), TREE)
        self.assertEqual(moments(TREE, ()), (TREE,))

    def test_moments(self):
        steps = (("remove", "b"), ("create", "x", "c", None), ("move", "c", "root", "a"))
        trees = moments(TREE, steps)
        self.assertEqual(len(trees), 4)
        self.assertEqual(trees[0], TREE)
        for index, step in enumerate(steps):
            self.assertEqual(trees[index + 1], model_step(trees[index], step))
        self.assertEqual(run(TREE, steps), trees[-1])

    def test_400_operations(self):
        steps = (("move", "a", "root", None),) * 399
        self.assertEqual(run(TREE, steps), ("root", TREE[1][::-1]))
        self.assertEqual(run(TREE, (*steps, ("move", "d", "root", None))), TREE)
        self.assertEqual(len(moments(TREE, (*steps, ("remove", "d")))), 401)

    def test_many_steps_as_the_model(self):
        numbers = random.Random(7)
        keys = ["r", *"abcdefgh"]
        choices = all_operations(keys)
        for _ in range(20):
            tree, steps, trees = ("r", ()), [], [("r", ())]
            while len(steps) < 40:
                step = numbers.choice(choices)
                following = model_step(tree, step)
                if following is not None:
                    tree = following
                    steps.append(step)
                    trees.append(tree)
            self.assertEqual(moments(("r", ()), tuple(steps)), tuple(trees))
            self.assertTrue(all(is_tree(each) for each in trees))


class ManyBetweenOperations(unittest.TestCase):
    """Between two operations there may be more than 60 elements, up to 200 nested in one another."""

    def test_200_nested_by_creating(self):
        creates = tuple(("create", key_at(number + 1), key_at(number), None) for number in range(199))
        self.assertEqual(run((key_at(0), ()), creates), chain(200))
        self.assertEqual(moments((key_at(0), ()), creates), tuple(chain(many) for many in range(1, 201)))

    def test_200_nested_by_moving(self):
        tree = wide(60)
        creates = tuple(("create", key_at(number), key_at(0), None) for number in range(60, 200))
        moves = tuple(("move", key_at(number + 1), key_at(number), None) for number in range(199))
        self.assertEqual(run(tree, creates + moves), chain(200))
        self.assertEqual(len(run(tree, creates)[1]), 199)
        self.assertEqual(run(tree, creates + moves + (("remove", key_at(20)),)), chain(20))

    def test_what_was_returned_may_be_passed_in_again(self):
        tree = run(chain(200), (("move", key_at(199), key_at(0), key_at(1)),))
        self.assertEqual(path_of(tree, key_at(199)), (key_at(0), key_at(199)))
        self.assertEqual(run(tree, (("move", key_at(199), key_at(198), None),)), chain(200))
        with self.assertRaises(Impossible):
            run(chain(200), (("move", key_at(1), key_at(199), None),))

    def test_460_elements(self):
        creates = tuple(("create", key_at(number), key_at(0), key_at(1)) for number in range(60, 460))
        self.assertEqual(len(keys_of(run(wide(60), creates))), 460)


class MovedAndCost(unittest.TestCase):
    def test_moved(self):
        steps = (("move", "c", "r", None), ("create", "x", "r", None), ("move", "a", "r", "b"), ("remove", "b"),
                 ("move", "c", "a", None))
        self.assertEqual(moved(steps), ("a", "c"))
        self.assertEqual(moved(()), ())
        self.assertEqual(moved((("create", "x", "r", None), ("remove", "b"))), ())

    def test_cost_of(self):
        steps = (("move", "c", "r", None), ("create", "x", "r", None), ("move", "a", "r", "b"), ("remove", "b"),
                 ("move", "c", "a", None))
        self.assertEqual(cost_of(steps, ()), 3)
        self.assertEqual(cost_of(steps, (("c", 10),)), 21)
        self.assertEqual(cost_of(steps, (("a", 7), ("b", 100), ("c", 1000), ("r", 50), ("x", 500))), 2007)
        self.assertEqual(cost_of(steps, (("b", 1000), ("x", 1000))), 3)
        self.assertEqual(cost_of((), (("a", 5),)), 0)
        self.assertEqual(cost_of((("move", "a", "b", None),) * 400, (("a", 1000),)), 400000)


class AreCosts(unittest.TestCase):
    def test_costs(self):
        for value in ((), (("a", 1),), (("a", 1000),), (("a", 5), ("b", 1)), (("a", 1), ("aa", 1), ("b", 1)),
                      tuple((key_at(number), 1) for number in range(500))):
            self.assertIs(are_costs(value), True, value)

    def test_edges_of_a_cost(self):
        for cost, expected in ((0, False), (1, True), (2, True), (999, True), (1000, True), (1001, False), (-1, False),
                               (10 ** 50, False), (True, False), (False, False), (None, False), ("1", False),
                               ((1,), False), ([1], False)):
            self.assertIs(are_costs((("a", cost),)), expected, cost)

    def test_ascending(self):
        self.assertIs(are_costs((("b", 1), ("a", 1))), False)
        self.assertIs(are_costs((("a", 1), ("a", 1))), False)
        self.assertIs(are_costs((("a", 1), ("a", 2))), False)
        self.assertIs(are_costs((("a", 1), ("b", 1), ("a", 2))), False)
        self.assertIs(are_costs((("aa", 1), ("a", 1))), False)

    def test_wrong_pairs(self):
        for pair in (("a",), ("a", 1, 1), ["a", 1], ("A", 1), ("", 1), ("abcdefghi", 1), (1, "a"), (None, 1), (("a",), 1),
                     (["a"], 1), "ab", {"a": 1}, None, 1, ()):
            self.assertIs(are_costs((pair,)), False, pair)
            self.assertIs(are_costs((("a", 1), pair)), False, pair)

    def test_no_tuple(self):
        for value in ([], [("a", 1)], {"a": 1}, {}, None, "", "a", 1, ("a", 1)):
            self.assertIs(are_costs(value), False, value)

    def test_any_value(self):
        for value in any_values():
            self.assertIs(are_costs(value), value == (), value)
            self.assertIs(are_costs((value,)), False, value)
            self.assertIs(are_costs(((value, 1),)), False, value)
            expected = value == 2 or (value == 1 and value is not True)
            self.assertIs(are_costs((("a", value),)), expected, value)


if __name__ == "__main__":
    unittest.main()
