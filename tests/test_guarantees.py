"""Guarantees (a) to (h), each over the whole program, for small trees beside all patches and for large random ones."""

import itertools
import random
import unittest

from helpers import all_trees, model_fault, model_keys, thaw
from keyedmoves.cheapest import cheapest_patch, covers, least_cost, shows_cheapest
from keyedmoves.choices import best_at, best_count, every_best, some_best
from keyedmoves.desk import Desk
from keyedmoves.operations import cost_of, moments, moved, run
from keyedmoves.patches import kept
from keyedmoves.returning import batched, joined, way_back
from keyedmoves.staying import can_stay, patch_with
from keyedmoves.texts import read_operations, read_tree, show_operations, show_tree
from keyedmoves.trees import is_inside, keys_of
from keyedmoves.view import View
from model_staying import model_conflict
from randoms import random_costs, random_pair, random_patch, random_staying
from search import cases_from, keys_in, subsets

COSTS = (("a", 3), ("b", 2), ("d", 5))


class Guarantees(unittest.TestCase):
    def setUp(self):
        self.numbers = random.Random(36)
        trees = all_trees("r", "abc") + all_trees("r", "bcd")[::3] + all_trees("r", "ab")
        self.pairs = [(old, new) for old, new in itertools.product(trees, trees) if self.numbers.random() < 0.1]
        self.large = [random_pair(self.numbers, many, nested) for many in (20, 60) for nested in (2, 5, 20)]

    def draw_focused(self, old, new):
        return random_staying(self.numbers, kept(old, new), lambda keys: can_stay(old, new, keys))

    def test_a_there_is_a_tree_at_every_moment(self):
        for old, new in self.pairs + self.large:
            focused = self.draw_focused(old, new)
            there = cheapest_patch(old, new, COSTS, focused=focused)
            back = way_back(old, new, there)
            for tree, steps in ((old, there), (new, back), (old, joined(old, new, old, there, back))):
                for moment in moments(tree, steps):
                    keys = model_keys(thaw(moment))
                    self.assertEqual(len(keys), len(set(keys)))
                    self.assertEqual(keys[0], old[0])
                    self.assertFalse(any(is_inside(moment, key, key) for key in keys))

    def test_b_which_elements_can_all_stay(self):
        for old, new in self.pairs:
            for keys in subsets(kept(old, new)):
                self.assertIs(can_stay(old, new, keys), model_conflict(old, new, keys) is None)
                if can_stay(old, new, keys):
                    patch = patch_with(old, new, keys)
                    self.assertIsNone(model_fault(old, new, patch))
                    moves = sorted(step[1] for step in patch if step[0] == "move")
                    self.assertEqual(moves, [key for key in kept(old, new) if key not in keys])

    def test_c_d_e_the_cheapest_of_all_patches(self):
        for old in all_trees("r", "abc")[::5]:
            for new_trees in (all_trees("r", "abc"), all_trees("r", "bcd")[::2]):
                for case in cases_from(old, new_trees, COSTS):
                    if case[3] is not None:
                        self.check_cheapest(*case)

    def check_cheapest(self, old, new, focused, least, sets):
        patch = cheapest_patch(old, new, COSTS, focused=focused)
        shown = covers(old, new, COSTS, focused=focused)
        self.assertEqual(least_cost(old, new, COSTS, focused=focused), least)
        self.assertEqual(cost_of(patch, COSTS), least)
        self.assertEqual(set(moved(patch)) & set(focused), set())
        self.assertIs(shows_cheapest(old, new, COSTS, (patch, shown), focused=focused), True)
        # Covers accept a patch exactly if it is a cheapest one that leaves the focused elements.
        for keys in subsets(kept(old, new)):
            if can_stay(old, new, keys):
                other = patch_with(old, new, keys)
                is_cheapest = set(keys) >= set(focused) and cost_of(other, COSTS) == least
                self.assertIs(shows_cheapest(old, new, COSTS, (other, shown), focused=focused), is_cheapest)
        many = best_count(old, new, COSTS, focused=focused)
        self.assertEqual(sorted(best_at(old, new, COSTS, at, focused=focused) for at in range(many)), sets)
        self.assertEqual(set(some_best(old, new, COSTS, focused=focused)), set().union(*sets))
        self.assertEqual(set(every_best(old, new, COSTS, focused=focused)), set(sets[0]).intersection(*sets))

    def test_f_the_way_back_and_joined_patches(self):
        for old, new in self.pairs + self.large:
            costs = random_costs(self.numbers, keys_of(old), (1, 2, 1000))
            there = cheapest_patch(old, new, costs)
            back = way_back(old, new, there)
            self.assertEqual(moved(back), moved(there))
            self.assertEqual(len([step for step in back if step[0] == "move"]), len(moved(there)))
            self.assertEqual(least_cost(new, old, costs), cost_of(there, costs))
            self.assertIsNone(model_fault(new, old, back))
            onward = random_patch(self.numbers, new, 5)
            last = run(new, onward)
            whole = joined(old, new, last, there, onward)
            self.assertIsNone(model_fault(old, last, whole))
            in_all = keys_in(old) & keys_in(new) & keys_in(last)
            self.assertLessEqual(set(moved(whole)) & in_all, set(moved(there)) | set(moved(onward)))

    def test_f_by_way_of_a_third_tree(self):
        trees = all_trees("r", "abc")
        for old, middle, new in itertools.product(trees[::2], trees, trees[::2]):
            by_way = least_cost(old, middle, COSTS) + least_cost(middle, new, COSTS)
            self.assertLessEqual(least_cost(old, new, COSTS), by_way)

    def test_g_a_view_from_tree_to_tree(self):
        for old, new in self.pairs + self.large:
            focused = self.draw_focused(old, new)
            view = View(old, COSTS)
            for key in focused:
                view.focus(key)
            before, changes = view.copy(), view.changes()
            patch = view.update(new)
            self.assertIsNone(model_fault(old, new, patch))
            self.assertEqual(set(moved(patch)) & set(focused), set())
            self.assertEqual(view.spent(), least_cost(old, new, COSTS, focused=focused))
            view.undo()
            self.assertEqual((view, view.changes(), view.spent()), (before, changes, 0))

    def test_h_texts_are_read_back(self):
        for old, new in self.pairs + self.large:
            patch = cheapest_patch(old, new, COSTS)
            for part in (patch, *batched(patch, COSTS, 5)):
                self.assertEqual(read_operations(show_operations(part)), part)
            self.assertEqual(read_tree(show_tree(old)), old)

    def test_h_the_desk_answers_as_the_view(self):
        for old, new in self.pairs + self.large:
            desk, view = Desk(show_tree(old)), View(old)
            for key, cost in COSTS:
                self.assertEqual(desk.say(f"price {key} {cost}"), "done")
                view.price(key, cost)
            steps = show_operations(view.update(new)).replace("\n", ", ") or "-"
            self.assertEqual(desk.say("preview\n" + show_tree(new)), steps)
            self.assertEqual(desk.say("update\n" + show_tree(new)), steps)
            self.assertEqual(desk.say("tree"), show_tree(view.tree()).replace("\n", " / "))
            self.assertEqual([desk.say("spent"), desk.say("size")], [str(view.spent()), str(len(view))])


if __name__ == "__main__":
    unittest.main()
