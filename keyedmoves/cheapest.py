"""The cheapest patches, and the covers that show that none is cheaper."""

from keyedmoves.operations import cost_of, moved
from keyedmoves.patches import is_patch, kept
from keyedmoves.runs import cover_of, heaviest_run, is_cover, times_of, weight_of
from keyedmoves.staying import are_crossing, check_can_stay, patch_with, places_of, steady
from keyedmoves.trees import walk


def least_cost(old, new, costs, *, focused=()):
    """Return the least cost of a patch that does not move the focused elements."""
    staying_keys = best_staying(old, new, costs, focused=focused)
    return weight_of([key for key in kept(old, new) if key not in staying_keys], costs)


def best_staying(old, new, costs, *, focused=()):
    """Return the ascending tuple of the elements that stay in the cheapest patch."""
    return focused_and_chosen(heaviest_run, old, new, costs, focused)


def cheapest_patch(old, new, costs, *, focused=()):
    """Return a patch with the least cost."""
    return patch_with(old, new, best_staying(old, new, costs, focused=focused))


def covers(old, new, costs, *, focused=()):
    """Return covers that show which cost is the least."""
    rivals = candidates(old, new, focused)
    return tuple([(parent, cover_of(first, second, costs)) for parent, first, second in rivals])


def shows_cheapest(old, new, costs, value, *, focused=()):
    """Return whether any value is a patch and covers that show that no patch is cheaper."""
    rivals = candidates(old, new, focused)
    if not isinstance(value, tuple) or len(value) != 2:
        return False
    if not is_patch_around(old, new, focused, value[0]) or not are_covers(rivals, costs, value[1]):
        return False
    movable = [key for key in kept(old, new) if key not in focused]
    saved = sum([times_of(cover) for parent, cover in value[1]])
    return cost_of(value[0], costs) == weight_of(movable, costs) - saved


def candidates(old, new, focused):
    """Return (parent, candidates in the order of old, the same in the order of new), the parents ascending."""
    check_can_stay(old, new, focused)
    old_places = places_of(old)
    new_places = places_of(new)
    free = []
    for key in steady(old, new):
        crossing = [other for other in focused if are_crossing(old_places, new_places, key, other)]
        if key not in focused and not crossing:
            free.append(key)
    in_old = children_among(old, free)
    in_new = children_among(new, free)
    return [(parent, in_old[parent], in_new[parent]) for parent in sorted(list(in_old))]


def children_among(tree, keys):
    """Return a dict from each parent that has children among these keys to them, in order."""
    found = {}
    for item in walk(tree):
        chosen = tuple([child[0] for child in item[1] if child[0] in keys])
        if chosen:
            found[item[0]] = chosen
    return found


def focused_and_chosen(choose, old, new, costs, focused):
    """Return the ascending tuple of the focused elements and of what is chosen from the candidates of each parent."""
    rivals = candidates(old, new, focused)
    chosen = list(focused)
    for parent, first, second in rivals:
        chosen.extend(choose(first, second, costs))
    return tuple(sorted(chosen))


def is_patch_around(old, new, focused, value):
    """Return whether any value is a patch that does not move the focused elements."""
    if not is_patch(old, new, value):
        return False
    return not any([key in focused for key in moved(value)])


def are_covers(rivals, costs, value):
    """Return whether any value is covers of these candidates."""
    if not isinstance(value, tuple) or len(value) != len(rivals):
        return False
    return all([is_covers_pair(rival, costs, item) for rival, item in zip(rivals, value)])


def is_covers_pair(rival, costs, value):
    """Return whether any value is the parent of these candidates and a cover of them."""
    parent, first, second = rival
    if not isinstance(value, tuple) or len(value) != 2:
        return False
    return value[0] == parent and is_cover(first, second, costs, value[1])
