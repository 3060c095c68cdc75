"""Points [17] and [18]: runs.py."""

import itertools
import random
import unittest

from helpers import any_values, in_blocks, key_at, with_one_bool, with_one_list, with_one_other
from keyedmoves.errors import NoNumber
from keyedmoves.runs import cover_of, every_run, heaviest_run, run_at, run_count, shows_heaviest, some_run
from randoms import random_costs
from search import all_runs, heaviest_runs, is_proper_cover

FIRST, SECOND, COSTS = ("c", "d", "e", "f"), ("f", "c", "e", "d"), (("d", 5), ("f", 3))
ROWS = ((1, ("c", "f")), (1, ("d", "e", "f")), (1, ("d", "f")), (3, ("d",)))


def random_sequences(numbers, most):
    """Return two sequences that share most of their keys."""
    keys = [key_at(number) for number in range(most)]
    numbers.shuffle(keys)
    first = [key for key in keys if numbers.random() < 0.9]
    second = [key for key in keys if numbers.random() < 0.9]
    numbers.shuffle(second)
    return tuple(first), tuple(second)


class RunsTest(unittest.TestCase):
    def check_all(self, first, second, costs):
        """Compare everything with what going through all runs finds."""
        runs, weight = heaviest_runs(first, second, costs)
        self.assertEqual(heaviest_run(first, second, costs), runs[0])
        self.assertEqual(run_count(first, second, costs), len(runs))
        self.assertEqual([run_at(first, second, costs, number) for number in range(len(runs))], runs)
        for number in (-1, len(runs), len(runs) + 1):
            self.check_no_number(first, second, costs, number)
        inside = sorted(key for key in first if any(key in run for run in runs))
        self.assertEqual(some_run(first, second, costs), tuple(inside))
        inside = sorted(key for key in first if all(key in run for run in runs))
        self.assertEqual(every_run(first, second, costs), tuple(inside))
        self.check_cover(first, second, costs, weight)

    def check_cover(self, first, second, costs, weight):
        cover = cover_of(first, second, costs)
        self.assertTrue(is_proper_cover(first, second, costs, cover), cover)
        self.assertEqual(sum(times for times, _ in cover), weight)

    def check_no_number(self, first, second, costs, number):
        with self.assertRaises(NoNumber) as caught:
            run_at(first, second, costs, number)
        self.assertIs(caught.exception.number, number)


class AllRuns(RunsTest):
    def test_every_order_of_up_to_five_keys(self):
        for many in range(6):
            first = tuple("abcde"[:many])
            for second in itertools.permutations(first):
                self.check_all(first, second, ())
                self.check_all(second, first, (("a", 2), ("d", 3)))

    def test_keys_that_are_not_common(self):
        for first, second in ((("a", "x", "b"), ("y", "b", "a", "z")), (("a", "b"), ("c", "d")), (("x", "a"), ("a",)),
                              (("b", "a", "x"), ("x", "y", "b", "c", "a"))):
            for costs in ((), (("x", 1000), ("y", 1000), ("z", 7)), (("a", 2), ("b", 3), ("c", 9))):
                self.check_all(first, second, costs)

    def test_random_sequences(self):
        numbers = random.Random(17)
        for choices in ((1, 2), (1, 1000), (1, 2, 3, 4, 5), (999, 1000)):
            for _ in range(60):
                first, second = random_sequences(numbers, 8)
                self.check_all(first, second, random_costs(numbers, first + second, choices))

    def test_no_key_and_one_key(self):
        for first, second in (((), ()), ((), ("a",)), (("a",), ()), (("a",), ("b",))):
            self.check_all(first, second, (("a", 5), ("b", 7)))
            self.assertEqual(heaviest_run(first, second, ()), ())
            self.assertEqual(run_count(first, second, ()), 1)
            self.assertEqual(run_at(first, second, (), 0), ())
            self.assertEqual(cover_of(first, second, ()), ())
        self.check_all(("a",), ("a",), ())
        self.assertEqual(cover_of(("a",), ("a",), (("a", 1000),)), ((1000, ("a",)),))

    def test_costs_1_and_1000(self):
        first, second = ("a", "b", "c", "d"), ("d", "a", "b", "c")
        self.assertEqual(heaviest_run(first, second, ()), ("a", "b", "c"))
        self.assertEqual(heaviest_run(first, second, (("d", 1000),)), ("d",))
        self.assertEqual(heaviest_run(first, second, (("a", 1000), ("d", 1000))), ("a", "b", "c"))
        self.assertEqual(run_count(first, second, (("a", 998), ("d", 1000))), 2)
        self.assertEqual(run_count(first, second, (("a", 998), ("d", 999))), 1)

    def test_the_least_of_several_is_not_the_first_in_order(self):
        self.assertEqual(heaviest_run(("b", "a"), ("a", "b"), ()), ("a",))
        self.assertEqual(heaviest_run(("c", "b", "a", "d"), ("a", "c", "b", "d"), (("a", 2),)), ("a", "d"))
        self.assertEqual(heaviest_run(("aa", "b", "a"), ("a", "b", "aa"), ()), ("a",))


class Many(RunsTest):
    """Sequences of 60 keys and more than 10 ** 9 heaviest runs."""

    def test_more_than_a_billion(self):
        first, second = in_blocks(60, 3)
        many = 3 ** 20
        self.assertGreater(many, 10 ** 9)
        for one, other in ((first, second), (second, first)):
            self.assertEqual(run_count(one, other, ()), many)
            self.assertEqual(heaviest_run(one, other, ()), first[::3])
            self.assertEqual(run_at(one, other, (), 0), first[::3])
            self.assertEqual(run_at(one, other, (), 1), first[:57:3] + first[58:59])
            self.assertEqual(run_at(one, other, (), many - 1), first[2::3])
            self.assertEqual(run_at(one, other, (), many - 2), first[2:57:3] + first[58:59])
            self.assertEqual(some_run(one, other, ()), first)
            self.assertEqual(every_run(one, other, ()), ())
            for number in (-1, many, many + 1, 10 ** 100, -many):
                self.check_no_number(one, other, (), number)
            self.check_cover(one, other, (), 20)

    def test_each_number_of_more_than_a_billion(self):
        first, second = in_blocks(60, 3)
        numbers = random.Random(18)
        for _ in range(20):
            digits = [numbers.randrange(3) for _ in range(20)]
            number = sum(digit * 3 ** (19 - at) for at, digit in enumerate(digits))
            expected = tuple(first[3 * at + digit] for at, digit in enumerate(digits))
            self.assertEqual(run_at(first, second, (), number), expected)

    def test_some_and_every_of_more_than_a_billion(self):
        first, second = in_blocks(60, 2)
        costs = ((first[0], 2), (first[3], 7))
        self.assertEqual(run_count(first, second, costs), 2 ** 28)
        self.assertEqual(every_run(first, second, costs), (first[0], first[3]))
        self.assertEqual(some_run(first, second, costs), (first[0], *first[3:]))
        self.assertEqual(run_count(first, second, ()), 2 ** 30)
        self.assertEqual(every_run(first, second, ()), ())

    def test_60_keys_in_order_and_backwards(self):
        keys = tuple(key_at(number) for number in range(60))
        costs = tuple((key, 1000) for key in keys)
        self.assertEqual(heaviest_run(keys, keys, costs), keys)
        self.assertEqual(run_count(keys, keys, costs), 1)
        self.assertEqual(every_run(keys, keys, costs), keys)
        self.check_cover(keys, keys, costs, 60000)
        self.assertEqual(heaviest_run(keys, keys[::-1], costs), keys[:1])
        self.assertEqual(run_count(keys, keys[::-1], costs), 60)
        self.assertEqual(run_at(keys, keys[::-1], costs, 59), keys[59:])
        self.assertEqual(some_run(keys, keys[::-1], costs), keys)
        self.check_cover(keys, keys[::-1], costs, 1000)

    def test_60_random_keys(self):
        numbers = random.Random(60)
        for choices in ((1, 2), (1, 1000), tuple(range(1, 1001))):
            for _ in range(10):
                first, second = random_sequences(numbers, 60)
                costs = random_costs(numbers, first, choices)
                self.check_large(first, second, costs)

    def check_large(self, first, second, costs):
        run, cover = heaviest_run(first, second, costs), cover_of(first, second, costs)
        self.assertIs(shows_heaviest(first, second, costs, run, cover), True)
        self.check_cover(first, second, costs, sum(dict(costs).get(key, 1) for key in run))
        many = run_count(first, second, costs)
        shown = [run_at(first, second, costs, number) for number in range(min(many, 40))]
        self.assertEqual(shown, sorted(set(shown)))
        for each in [*shown, run_at(first, second, costs, many - 1)]:
            self.assertIs(shows_heaviest(first, second, costs, each, cover), True)
        if many <= 40:
            inside = sorted(key for key in first if any(key in each for each in shown))
            self.assertEqual(some_run(first, second, costs), tuple(inside))
            inside = sorted(key for key in first if all(key in each for each in shown))
            self.assertEqual(every_run(first, second, costs), tuple(inside))
        self.check_no_number(first, second, costs, many)


class NoSuchNumber(RunsTest):
    def test_any_value(self):
        keys, runs = ("a", "b", "c"), [("a",), ("b",), ("c",)]
        for value in any_values():
            if value.__class__ is int and 0 <= value < 3:
                self.assertEqual(run_at(keys, keys[::-1], (), value), runs[value])
            else:
                self.check_no_number(keys, keys[::-1], (), value)

    def test_a_bool_is_no_number(self):
        for number in (True, False, (0,), [0], "0", None):
            self.check_no_number(("a", "b"), ("b", "a"), (), number)


class ShowsHeaviest(RunsTest):
    def check(self, expected, run, value, costs=COSTS):
        self.assertIs(shows_heaviest(FIRST, SECOND, costs, run, value), expected, (run, value))

    def test_right_ones(self):
        self.check(True, ("c", "d"), ROWS)
        self.check(True, ("c", "d"), ROWS[::-1])
        self.check(True, ("c", "d"), cover_of(FIRST, SECOND, COSTS))
        costs = (("c", 2), ("d", 3), ("f", 3))
        self.check(True, ("c", "d"), ((2, ("c", "f")), (1, ("d", "e", "f")), (2, ("d",))), costs)
        self.check(True, ("c", "e"), cover_of(FIRST, SECOND, ()), ())
        self.check(True, ("c", "d"), ((1, ("c",)), (1, ("d", "e", "f"))), ())

    def test_a_cover_may_cover_more_than_the_costs(self):
        self.check(True, ("c", "d"), ((1, ("c", "f")), (1, ("d", "e", "f"))), ())

    def test_runs_that_are_lighter_or_none(self):
        for run in ((), ("c",), ("d",), ("c", "e"), ("f",), ("d", "c"), ("c", "d", "e"), ("c", "e", "d"), ("f", "d"),
                    ("c", "c", "d"), ("c", "d", "d"), ("c", "x"), ("c", "d", "x"), ["c", "d"], "cd", {"c": 1, "d": 1},
                    ("c", ["d"]), (("c", "d"),)):
            self.check(False, run, ROWS)

    def test_only_a_run_of_the_weight_of_the_cover(self):
        # Each of these runs has weight 2, and only those that are runs of both sequences count.
        for run in itertools.permutations(FIRST, 2):
            expected = run in all_runs(FIRST, SECOND)
            self.check(expected, run, ((1, ("c", "f")), (1, ("d", "e", "f"))), ())

    def test_covers_that_are_none(self):
        wrong = [(), ROWS[1:], ROWS[:3], (*ROWS, (1, ("c",))), ROWS[:3] + ((2, ("d",)),), ROWS[:3] + ((4, ("d",)),),
                 ((1, ("f", "c")), *ROWS[1:]), ((1, ("c", "d")), *ROWS[1:]), ((1, ("c", "c")), *ROWS[1:]),
                 ((1, ("c", "x")), *ROWS[1:]), ((1, ()), *ROWS), (*ROWS, (0, ("c",))), (*ROWS, (-1, ("c",)), (1, ("c",))),
                 ROWS[:3] + ((4, ("d",)), (-1, ("d",))), ROWS[:3] + ((3, ("d",), 0),), ROWS[:3] + ((3,),),
                 ROWS[:3] + (("d", 3),), ROWS[:3] + ((3, "d"),), ROWS[:3] + (("3", ("d",)),), ROWS[:3] + (3, ("d",)),
                 ROWS[:2] + ((1, ("d", "e")), (3, ("d",))), ((6, ("c", "d", "e", "f")),), ((6, ("c", "f")),)]
        for value in wrong:
            self.check(False, ("c", "d"), value)

    def test_the_times_add_up_but_a_key_is_not_covered(self):
        self.check(True, ("c", "d"), ((1, ("c",)), (1, ("d", "e", "f"))), ())
        self.check(False, ("c", "d"), ((1, ("c",)), (1, ("d", "e"))), ())
        self.check(False, ("c", "d"), ((1, ("c",)), (1, ("d", "f"))), ())
        self.check(False, ("c", "d"), ((1, ("c", "f")), (1, ("e", "f"))), ())
        self.check(False, ("c", "d"), ((2, ("d", "e", "f")),), ())
        # Costs count one by one: f is covered twice, and needs three times.
        self.check(False, ("c", "d"), ((2, ("d", "e", "f")), (1, ("c",)), (3, ("d",))))

    def test_lists_and_bools(self):
        self.check(True, ("c", "d"), ROWS)
        for run in with_one_list(("c", "d")):
            self.check(False, run, ROWS)
        for value in [*with_one_list(ROWS), *with_one_bool(ROWS)]:
            self.check(False, ("c", "d"), value)

    def test_any_value(self):
        for value in any_values():
            self.check(False, value, ROWS)
            self.check(False, ("c", "d"), value)
            self.check(False, value, value)
            for part in (("c", value), (value, "d")):
                self.check(False, part, ROWS)

    def test_any_value_in_any_place(self):
        others = [value for value in any_values() if value not in (1, "c", "d", "e", "f", "", ())]
        for value in with_one_other(ROWS[:1] + ROWS[3:], others):
            self.check(False, ("c", "d"), value)

    def test_nothing_common(self):
        for first, second in (((), ()), (("a",), ()), (("a",), ("b",))):
            self.assertIs(shows_heaviest(first, second, (("a", 4),), (), ()), True)
            for run, value in ((("a",), ()), ((), ((1, ("a",)),)), ((), ((1, ()),)), ([], ()), ((), []), ((), None)):
                self.assertIs(shows_heaviest(first, second, (("a", 4),), run, value), False)

    def test_small_covers_as_the_model(self):
        first, second, costs = ("a", "b", "c"), ("b", "a", "c"), (("a", 2),)
        rows = [row for many in (0, 1, 2) for row in itertools.product("abc", repeat=many)]
        pairs = [(times, row) for times in (0, 1, 2, 3) for row in rows]
        for many in range(3):
            for value in itertools.product(pairs, repeat=many):
                proper = is_proper_cover(first, second, costs, value)
                for run, weight in ((("a", "c"), 3), (("b", "c"), 2), (("a",), 2)):
                    expected = proper and sum(times for times, _ in value) == weight
                    self.assertIs(shows_heaviest(first, second, costs, run, value), expected, value)


if __name__ == "__main__":
    unittest.main()
