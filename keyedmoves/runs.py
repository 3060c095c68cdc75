"""Heaviest common runs of two sequences of keys: the covers that show them, their number, and each of them."""

from keyedmoves.errors import NoNumber
from keyedmoves.operations import is_whole_number


def heaviest_run(first, second, costs):
    """Return the run with the greatest weight, the least one of several."""
    return run_at(first, second, costs, 0)


def cover_of(first, second, costs):
    """Return a cover whose times add up to the greatest weight of a run."""
    # Each key takes up the last part, as long as its cost, of the heaviest run that ends with it. Keys that do
    # not cross never take up the same point, so the keys at any point are a row.
    shared = common(first, second)
    reached = {key: tail[0] for key, tail in tails(first[::-1], second[::-1], costs).items()}
    cost_by_key = costs_of(shared, costs)
    marks = sorted(set([0] + list(reached.values())))
    cover = []
    for start, stop in zip(marks, marks[1:]):
        row = [key for key in shared if reached[key] - cost_by_key[key] <= start and stop <= reached[key]]
        cover.append((stop - start, tuple(row)))
    return tuple(cover)


def shows_heaviest(first, second, costs, run, value):
    """Return whether run is a run, and value is a cover that shows that none is heavier."""
    if not is_run(first, second, run) or not is_cover(first, second, costs, value):
        return False
    return times_of(value) == weight_of(run, costs)


def run_count(first, second, costs):
    """Return how many runs have the greatest weight."""
    return heaviest_of(common(first, second), tails(first, second, costs))[1]


def run_at(first, second, costs, number):
    """Return the heaviest run of this number, in ascending order."""
    after = tails(first, second, costs)
    rest = common(first, second)
    if not is_number_below(number, heaviest_of(rest, after)[1]):
        raise NoNumber(number)
    places = places_in(second)
    number_in_rest = number
    chosen = []
    while rest:
        key, number_in_rest = beginning(rest, after, number_in_rest)
        chosen.append(key)
        rest = [other for other in rest[rest.index(key) + 1:] if places[other] > places[key]]
    return tuple(chosen)


def some_run(first, second, costs):
    """Return the ascending tuple of the keys that are in some heaviest run."""
    many_with = counts_with(first, second, costs)
    return tuple(sorted([key for key in many_with if many_with[key] > 0]))


def every_run(first, second, costs):
    """Return the ascending tuple of the keys that are in every heaviest run."""
    many_with = counts_with(first, second, costs)
    many = run_count(first, second, costs)
    return tuple(sorted([key for key in many_with if many_with[key] == many]))


def common(first, second):
    """Return the list of the common keys, in the order of first."""
    places = places_in(second)
    return [key for key in first if key in places]


def places_in(sequence):
    """Return a dict from each key of a sequence to its index."""
    return {key: at for at, key in enumerate(sequence)}


def costs_of(keys, costs):
    """Return a dict from each of these keys to its cost."""
    cost_by_key = dict(costs)
    return {key: cost_by_key.get(key, 1) for key in keys}


def weight_of(keys, costs):
    """Return the sum of the costs of these keys."""
    cost_by_key = costs_of(keys, costs)
    return sum([cost_by_key[key] for key in keys])


def tails(first, second, costs):
    """Return a dict from each common key to (weight, many) of the heaviest runs that begin with it."""
    shared = common(first, second)
    places = places_in(second)
    cost_by_key = costs_of(shared, costs)
    found = {}
    for at, key in reversed(list(enumerate(shared))):
        rest = [other for other in shared[at + 1:] if places[other] > places[key]]
        weight, many = heaviest_of(rest, found)
        found[key] = (cost_by_key[key] + weight, many)
    return found


def heaviest_of(rest, after):
    """Return (weight, many) of the heaviest runs that begin with a key of rest."""
    if not rest:
        # The run without keys is the only one then.
        return 0, 1
    weight = max([after[key][0] for key in rest])
    return weight, sum([after[key][1] for key in rest if after[key][0] == weight])


def beginning(rest, after, number):
    """Return the first key of the heaviest run of this number over rest, and its number among those with this key."""
    weight = heaviest_of(rest, after)[0]
    keys = sorted([key for key in rest if after[key][0] == weight])
    at = 0
    left = number
    while left >= after[keys[at]][1]:
        left -= after[keys[at]][1]
        at += 1
    return keys[at], left


def counts_with(first, second, costs):
    """Return a dict from each common key to the number of heaviest runs that have it."""
    after = tails(first, second, costs)
    ahead = tails(first[::-1], second[::-1], costs)
    cost_by_key = costs_of(list(after), costs)
    weight = heaviest_of(list(after), after)[0]
    many_with = {}
    for key in after:
        # The key itself is in both parts.
        is_heaviest = ahead[key][0] + after[key][0] - cost_by_key[key] == weight
        many_with[key] = ahead[key][1] * after[key][1] if is_heaviest else 0
    return many_with


def is_number_below(value, many):
    """Return whether any value is one of the numbers from 0 of this many things."""
    return is_whole_number(value) and 0 <= value < many


def is_run(first, second, value):
    """Return whether any value is a run."""
    if not is_tuple_of(value, common(first, second)):
        return False
    return stand_in_order(value, first) and stand_in_order(value, second)


def is_cover(first, second, costs, value):
    """Return whether any value is a cover."""
    if not isinstance(value, tuple) or not all([is_times_and_row(first, second, pair) for pair in value]):
        return False
    needed = costs_of(common(first, second), costs)
    for times, row in value:
        for key in row:
            needed[key] -= times
    return all([left <= 0 for left in needed.values()])


def is_times_and_row(first, second, value):
    """Return whether any value is a pair that can be in a cover."""
    if not isinstance(value, tuple) or len(value) != 2:
        return False
    return is_whole_number(value[0]) and value[0] >= 1 and is_row(first, second, value[1])


def is_row(first, second, value):
    """Return whether any value is a row."""
    if not is_tuple_of(value, common(first, second)) or len(value) == 0:
        return False
    return stand_in_order(value, first) and stand_in_order(value[::-1], second)


def is_tuple_of(value, keys):
    """Return whether any value is a tuple of nothing but these keys."""
    return isinstance(value, tuple) and all([item in keys for item in value])


def stand_in_order(keys, sequence):
    """Return whether keys of a sequence stand in it in this order, none of them twice."""
    places = places_in(sequence)
    return all([places[one] < places[other] for one, other in zip(keys, keys[1:])])


def times_of(cover):
    """Return the sum of the times of a cover."""
    return sum([times for times, row in cover])
