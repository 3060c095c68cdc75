"""The best sets: all choices of elements that stay in a cheapest patch."""

from keyedmoves.cheapest import candidates, focused_and_chosen
from keyedmoves.errors import NoNumber
from keyedmoves.runs import every_run, is_number_below, run_at, run_count, some_run


def best_count(old, new, costs, *, focused=()):
    """Return how many best sets there are."""
    many = 1
    for parent, first, second in candidates(old, new, focused):
        many *= run_count(first, second, costs)
    return many


def best_at(old, new, costs, number, *, focused=()):
    """Return the best set of this number."""
    if not is_number_below(number, best_count(old, new, costs, focused=focused)):
        raise NoNumber(number)
    chosen = list(focused)
    left = number
    for parent, first, second in reversed(candidates(old, new, focused)):
        left, number_here = divmod(left, run_count(first, second, costs))
        chosen.extend(run_at(first, second, costs, number_here))
    return tuple(sorted(chosen))


def some_best(old, new, costs, *, focused=()):
    """Return the ascending tuple of the elements that are in some best set."""
    return focused_and_chosen(some_run, old, new, costs, focused)


def every_best(old, new, costs, *, focused=()):
    """Return the ascending tuple of the elements that are in every best set."""
    return focused_and_chosen(every_run, old, new, costs, focused)
