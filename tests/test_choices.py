"""Point [24] and guarantee (e): choices.py."""

import itertools
import random
import unittest

from helpers import any_values, flat, in_blocks
from keyedmoves.cheapest import best_staying, least_cost
from keyedmoves.choices import best_at, best_count, every_best, some_best
from keyedmoves.errors import Conflict, DifferentRoots, NoNumber, NotKept
from keyedmoves.operations import cost_of
from keyedmoves.patches import kept
from keyedmoves.staying import can_stay, patch_with
from keyedmoves.trees import keys_of
from randoms import random_costs, random_pair, random_staying
from search import cases_from, keys_in, small_cases

OLD = ("root", (("b", (("e", ()), ("f", ()))), ("a", (("c", ()), ("d", ()), ("g", ()))), ("x", ())))
NEW = ("root", (("b", (("f", ()), ("e", ()))), ("y", ()), ("a", (("g", ()), ("c", ()), ("d", ())))))


class ChoicesTest(unittest.TestCase):
    def all_best(self, old, new, costs, focused=()):
        return [best_at(old, new, costs, number, focused=focused)
                for number in range(best_count(old, new, costs, focused=focused))]

    def check_no_number(self, number, old=OLD, new=NEW, focused=()):
        with self.assertRaises(NoNumber) as caught:
            best_at(old, new, (), number, focused=focused)
        self.assertIs(caught.exception.number, number)

    def check_sets(self, old, new, costs, focused, sets):
        """Compare everything with the best sets, in any order."""
        shown = self.all_best(old, new, costs, focused)
        self.assertEqual(sorted(shown), sorted(sets))
        self.assertEqual(shown[0], best_staying(old, new, costs, focused=focused))
        both = sorted(keys_in(old) & keys_in(new) - {old[0]})
        self.assertEqual(some_best(old, new, costs, focused=focused),
                         tuple(key for key in both if any(key in each for each in sets)))
        self.assertEqual(every_best(old, new, costs, focused=focused),
                         tuple(key for key in both if all(key in each for each in sets)))
        for number in (-1, len(sets), len(sets) + 1):
            with self.assertRaises(NoNumber):
                best_at(old, new, costs, number, focused=focused)


class Choices(ChoicesTest):
    def test_the_order_of_numbers(self):
        self.assertEqual(best_count(OLD, NEW, ()), 2)
        self.assertEqual(self.all_best(OLD, NEW, ()), [("a", "b", "c", "d", "e"), ("a", "b", "c", "d", "f")])
        # Of the parents a, b and root the last one that has a choice changes fastest.
        self.assertEqual(self.all_best(OLD, NEW, (("g", 2),)), [
            ("a", "b", "c", "d", "e"), ("a", "b", "c", "d", "f"), ("a", "b", "e", "g"), ("a", "b", "f", "g")])

    def test_three_parents(self):
        old = ("m", (("z", (("a", ()), ("b", ()))), ("k", (("c", ()), ("d", ()), ("e", ()))), ("p", ()), ("o", ())))
        new = ("m", (("z", (("b", ()), ("a", ()))), ("k", (("e", ()), ("d", ()), ("c", ()))), ("o", ()), ("p", ())))
        expected = [tuple(sorted(("k", "z", *chosen))) for chosen in itertools.product("cde", "op", "ab")]
        self.assertEqual(self.all_best(old, new, ()), expected)
        self.assertEqual(some_best(old, new, ()), ("a", "b", "c", "d", "e", "k", "o", "p", "z"))
        self.assertEqual(every_best(old, new, ()), ("k", "z"))
        self.assertEqual(self.all_best(old, new, (), ("d",)), [each for each in expected if "d" in each])
        self.assertEqual(every_best(old, new, (), focused=("d",)), ("d", "k", "z"))
        self.assertEqual(every_best(old, new, (("e", 2), ("o", 1000), ("q", 5))), ("e", "k", "o", "z"))
        self.assertEqual(self.all_best(old, new, (("e", 2), ("o", 1000))), [
            ("a", "e", "k", "o", "z"), ("b", "e", "k", "o", "z")])

    def test_with_focused_elements(self):
        self.assertEqual(self.all_best(OLD, NEW, (), ("g",)), [("a", "b", "e", "g"), ("a", "b", "f", "g")])
        self.assertEqual(some_best(OLD, NEW, (), focused=("g",)), ("a", "b", "e", "f", "g"))
        self.assertEqual(every_best(OLD, NEW, (), focused=("f", "g")), ("a", "b", "f", "g"))
        self.assertEqual(best_count(OLD, NEW, (), focused=("f", "g")), 1)
        self.assertEqual(best_count(OLD, NEW, (("g", 2),), focused=("f",)), 2)

    def test_focused_is_empty_by_default(self):
        for call in (best_count, some_best, every_best):
            self.assertEqual(call(OLD, NEW, ()), call(OLD, NEW, (), focused=()))
        self.assertEqual(best_at(OLD, NEW, (), 1), best_at(OLD, NEW, (), 1, focused=()))

    def test_without_candidates(self):
        for old, new, focused in ((("r", ()), ("r", ()), ()), (flat("r", "a"), ("r", ()), ()),
                                  (flat("r", "ab"), flat("r", "ab"), ("a", "b")),
                                  (("r", (("a", (("b", ()),)),)), ("r", (("b", (("a", ()),)),)), ())):
            self.check_sets(old, new, (("a", 3),), focused, [focused])

    def test_more_than_a_billion(self):
        first, second = in_blocks(59, 3)
        old, new = flat("r", first), flat("r", second)
        many = 3 ** 19 * 2
        self.assertGreater(many, 10 ** 9)
        self.assertEqual(best_count(old, new, ()), many)
        self.assertEqual(best_at(old, new, (), 0), first[::3])
        self.assertEqual(best_at(old, new, (), 1), first[:57:3] + first[58:])
        self.assertEqual(best_at(old, new, (), many - 1), first[2::3] + first[58:])
        self.assertEqual(some_best(old, new, ()), first)
        self.assertEqual(every_best(old, new, ()), ())
        self.assertEqual(every_best(old, new, (), focused=first[4:5]), first[4:5])
        self.assertEqual(best_count(old, new, (), focused=first[4:5]), many // 3)
        for number in (-1, many, many + 1, 10 ** 100):
            self.check_no_number(number, old, new)
        self.check_no_number(many // 3, old, new, first[4:5])

    def test_more_than_a_billion_with_many_parents(self):
        first, second = in_blocks(54, 3)
        names = ("p", "q", "s")
        old, new = [("r", tuple(flat(name, keys[18 * at:18 * at + 18]) for at, name in enumerate(names)))
                    for keys in (first, second)]
        self.assertEqual(best_count(old, new, ()), 3 ** 18)
        numbers = random.Random(24)
        for _ in range(10):
            digits = [numbers.randrange(3) for _ in range(18)]
            number = sum(digit * 3 ** (17 - at) for at, digit in enumerate(digits))
            chosen = [first[3 * at + digit] for at, digit in enumerate(digits)]
            self.assertEqual(best_at(old, new, (), number), tuple(sorted([*chosen, *names])))
        wide_old, wide_new = [("r", (*tree[1], *flat("r", keys)[1])) for tree, keys in ((old, "abt"), (new, "tba"))]
        self.assertEqual(best_count(wide_old, wide_new, ()), 3 ** 18 * 3)
        self.assertEqual(best_at(wide_old, wide_new, (), 3 ** 18 * 3 - 1), tuple(sorted([*first[2::3], *names, "t"])))
        self.check_no_number(3 ** 19, wide_old, wide_new)

    def test_large_random_trees(self):
        numbers = random.Random(25)
        for most_nested in (2, 4, 20):
            for _ in range(6):
                old, new = random_pair(numbers, 60, most_nested)
                costs = random_costs(numbers, keys_of(old), (1, 2))
                focused = random_staying(numbers, kept(old, new), lambda keys: can_stay(old, new, keys))
                self.check_large(old, new, costs, focused)

    def check_large(self, old, new, costs, focused):
        many = best_count(old, new, costs, focused=focused)
        least = least_cost(old, new, costs, focused=focused)
        shown = [best_at(old, new, costs, number, focused=focused) for number in {*range(min(many, 20)), many - 1}]
        self.assertEqual(len(set(shown)), len(shown))
        self.assertEqual(shown[0], best_staying(old, new, costs, focused=focused))
        some = some_best(old, new, costs, focused=focused)
        every = every_best(old, new, costs, focused=focused)
        for keys in shown:
            self.assertLessEqual(set(focused) | set(every), set(keys))
            self.assertLessEqual(set(keys), set(some))
            self.assertEqual(cost_of(patch_with(old, new, keys), costs), least)
        if many <= 20:
            self.check_sets(old, new, costs, focused, shown)


class AllPatches(ChoicesTest):
    """Guarantee (e), for all patches between small trees."""

    def check_patches(self, old_keys, new_keys, many, costs):
        self.check_cases(small_cases(old_keys, new_keys, many, costs), costs)

    def check_cases(self, cases, costs):
        for old, new, focused, least, sets in cases:
            if least is not None:
                self.check_sets(old, new, costs, focused, sets)

    def test_the_same_keys(self):
        self.check_patches("abc", "abc", 30, ())
        self.check_patches("abc", "abc", 30, (("a", 2), ("b", 2), ("z", 5)))
        self.check_patches("abcd", "abcd", 1, (("b", 2),))

    def test_with_created_and_removed_elements(self):
        for costs in ((), (("a", 1000), ("b", 2), ("c", 2))):
            self.check_patches("abc", "bcd", 5, costs)
            self.check_patches("abc", "ab", 10, costs)
            self.check_patches("bc", "abc", 4, costs)

    def test_siblings(self):
        new_trees = [flat("r", order) for order in itertools.permutations("abcd")]
        for old, costs in ((flat("r", "abcd"), ()), (flat("r", "cadb"), (("b", 2), ("d", 3)))):
            self.check_cases(cases_from(old, new_trees, costs), costs)


class Errors(ChoicesTest):
    def calls(self):
        for call in (best_count, some_best, every_best):
            yield lambda old, new, focused, call=call: call(old, new, (), focused=focused)
        for number in (0, -1, 99, None, [], True):
            yield lambda old, new, focused, number=number: best_at(old, new, (), number, focused=focused)

    def test_any_value_as_a_number(self):
        for value in any_values():
            if value.__class__ is int and 0 <= value < 2:
                self.assertEqual(best_at(OLD, NEW, (), value)[-1], "ef"[value])
            else:
                self.check_no_number(value)

    def test_a_bool_is_no_number(self):
        for number in (True, False, 2, -1, (0,), [1], "1", None):
            self.check_no_number(number)

    def test_not_kept(self):
        wrong = [("root",), ("x",), ("y",), ("b", "a"), ("a", "a"), "a", ["a"], [], None, 0, ("a", None), (["a"],)]
        wrong += [value for value in any_values() if value not in ((), ("a",), ("a", "b"))]
        for value in wrong:
            for call in self.calls():
                with self.assertRaises(NotKept) as caught:
                    call(OLD, NEW, value)
                self.assertIs(caught.exception.value, value)

    def test_conflict(self):
        for focused, expected in ((("e", "f"), ("e", "f")), (("a", "c", "d", "g"), ("c", "g")),
                                  (("d", "e", "f", "g"), ("d", "g"))):
            for call in self.calls():
                with self.assertRaises(Conflict) as caught:
                    call(OLD, NEW, focused)
                self.assertEqual(caught.exception.value, expected)

    def test_different_roots(self):
        for focused in [*any_values(), ("e", "f"), ("x",)]:
            for call in self.calls():
                with self.assertRaises(DifferentRoots):
                    call(OLD, ("other", NEW[1]), focused)

    def test_focused_by_name_alone(self):
        for call in (best_count, some_best, every_best):
            with self.assertRaises(TypeError):
                call(OLD, NEW, (), ())
        with self.assertRaises(TypeError):
            best_at(OLD, NEW, (), 0, ())


if __name__ == "__main__":
    unittest.main()
