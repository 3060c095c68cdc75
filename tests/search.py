"""What holds for small trees and short sequences, found by going through everything the document speaks of."""

import heapq
import itertools
import random

from helpers import all_operations, all_trees, find, model_keys, model_step, thaw

STEPS_FROM = {}


def keys_in(tree):
    return frozenset(model_keys(thaw(tree)))


def steps_from(tree, keys):
    """Return (operation, next tree) for every possible operation over these keys."""
    if (tree, keys) not in STEPS_FROM:
        after = [(operation, model_step(tree, operation)) for operation in all_operations(sorted(keys))]
        STEPS_FROM[tree, keys] = [(operation, following) for operation, following in after if following is not None]
    return STEPS_FROM[tree, keys]


def may_do(tree, operation, old_keys, new_keys):
    """Return whether a patch to a tree with new_keys may have this operation, by point [7]."""
    if operation[0] == "create":
        return operation[1] in new_keys - old_keys
    if operation[0] == "remove":
        return not new_keys & set(model_keys(find(thaw(tree), operation[1])))
    return True


def all_patches(old, new_keys, costs):
    """Return for each tree that patches lead to: each set of moved kept elements, with the least cost of it."""
    prices = dict(costs)
    old_keys = keys_in(old)
    both, keys = old_keys & new_keys, old_keys | new_keys
    least = {}
    waiting = [(0, 0, old, frozenset())]
    order = itertools.count(1)
    while waiting:
        cost, _, tree, gone = heapq.heappop(waiting)
        if gone in least.setdefault(tree, {}):
            continue
        least[tree][gone] = cost
        for operation, following in steps_from(tree, keys):
            if not may_do(tree, operation, old_keys, new_keys):
                continue
            is_move = operation[0] == "move"
            paid = prices.get(operation[1], 1) if is_move else 0
            moved_now = gone | {operation[1]} if is_move and operation[1] in both else gone
            if moved_now not in least.get(following, {}):
                heapq.heappush(waiting, (cost + paid, next(order), following, moved_now))
    return least


def best_sets(least_by_moved, both, focused):
    """Return the least cost and the ascending list of best sets, from what all_patches says of one new tree."""
    fitting = {gone: cost for gone, cost in least_by_moved.items() if not gone & set(focused)}
    if not fitting:
        return None, []
    least = min(fitting.values())
    return least, sorted(tuple(sorted(both - gone)) for gone, cost in fitting.items() if cost == least)


def subsets(keys):
    """Return all ascending tuples of these keys."""
    keys = sorted(keys)
    return [chosen for many in range(len(keys) + 1) for chosen in itertools.combinations(keys, many)]


def small_cases(old_keys, new_keys, many, costs):
    """Yield old, new, focused, the least cost (None if there is no such patch) and the best sets.

    There are this many old trees, all new trees and all sets of focused elements.
    """
    for old in random.Random(many).sample(all_trees("r", old_keys), many):
        yield from cases_from(old, all_trees("r", new_keys), costs)


def cases_from(old, new_trees, costs):
    """Yield the same for one old tree and for new trees that all have the same keys."""
    new_keys = keys_in(new_trees[0])
    both = (keys_in(old) & new_keys) - {old[0]}
    found = all_patches(old, new_keys, costs)
    for new in new_trees:
        for focused in subsets(both):
            yield (old, new, focused, *best_sets(found[new], both, focused))


def all_runs(first, second):
    """Return every run, by point [17]."""
    both = [key for key in first if key in second]
    chosen = [run for many in range(len(both) + 1) for run in itertools.combinations(both, many)]
    return [run for run in chosen if list(run) == sorted(run, key=second.index)]


def heaviest_runs(first, second, costs):
    """Return the ascending list of all runs with the greatest weight, and this weight."""
    prices = dict(costs)
    runs = [(sum(prices.get(key, 1) for key in run), run) for run in all_runs(first, second)]
    weight = max(runs)[0]
    return sorted(run for each, run in runs if each == weight), weight


def is_proper_cover(first, second, costs, cover):
    """Return whether a tuple is a cover, by point [17]."""
    prices = dict(costs)
    paid = {key: 0 for key in first if key in second}
    for times, row in cover:
        if times.__class__ is not int or times < 1 or row.__class__ is not tuple or not row:
            return False
        if any(key not in paid for key in row) or list(row) != sorted(set(row), key=first.index):
            return False
        if any(second.index(one) < second.index(other) for one, other in itertools.combinations(row, 2)):
            return False
        for key in row:
            paid[key] += times
    return all(paid[key] >= prices.get(key, 1) for key in paid)
