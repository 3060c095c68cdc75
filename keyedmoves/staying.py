"""Which elements can all stay unmoved, and the patch that moves each other kept element once."""

from keyedmoves.errors import Conflict, NotKept
from keyedmoves.patches import kept, removed
from keyedmoves.trees import children_of, keys_of, parents_of, walk


def steady(old, new):
    """Return the ascending tuple of all steady elements."""
    both = kept(old, new)
    old_parents = parents_of(old)
    new_parents = parents_of(new)
    return tuple([key for key in both if old_parents[key] == new_parents[key]])


def steady_children(old, new, parent):
    """Return the steady elements of one parent, in the order of old."""
    unchanged = steady(old, new)
    # An element that is only in old has no steady children anyway.
    if parent not in keys_of(old):
        return ()
    return tuple([key for key in children_of(old, parent) if key in unchanged])


def cross(old, new, one, other):
    """Return whether any two values are the keys of two steady elements that cross."""
    unchanged = steady(old, new)
    if one not in unchanged or other not in unchanged:
        return False
    return are_crossing(places_of(old), places_of(new), one, other)


def conflict(old, new, keys):
    """Return None if these elements can all stay, otherwise the one or the two that are to blame."""
    check_kept(old, new, keys)
    unchanged = steady(old, new)
    for key in keys:
        if key not in unchanged:
            return (key,)
    return least_crossing(old, new, keys)


def can_stay(old, new, keys):
    """Return whether these elements can all stay in some patch."""
    return conflict(old, new, keys) is None


def patch_with(old, new, keys):
    """Return the patch in which exactly these elements stay."""
    check_can_stay(old, new, keys)
    return tuple(placements(old, new, keys) + removals(old, new))


def check_kept(old, new, value):
    """Raise NotKept if any value is not an ascending tuple of kept keys."""
    both = kept(old, new)
    if not isinstance(value, tuple) or not all([item in both for item in value]):
        raise NotKept(value)
    if list(value) != sorted(set(value)):
        raise NotKept(value)


def check_can_stay(old, new, keys):
    """Raise NotKept, or Conflict if these elements cannot all stay."""
    found = conflict(old, new, keys)
    if found is not None:
        raise Conflict(found)


def places_of(tree):
    """Return a dict from the key of each element but the root to its parent and its index there."""
    places = {}
    for item in walk(tree):
        for at, child in enumerate(item[1]):
            places[child[0]] = (item[0], at)
    return places


def are_crossing(old_places, new_places, one, other):
    """Return whether two steady elements cross."""
    if old_places[one][0] != old_places[other][0]:
        return False
    # An element does not cross itself: it is ahead of itself in neither tree.
    is_ahead_in_old = old_places[one][1] < old_places[other][1]
    is_ahead_in_new = new_places[one][1] < new_places[other][1]
    return is_ahead_in_old != is_ahead_in_new


def least_crossing(old, new, keys):
    """Return the least pair of these steady elements that cross, None if no two do."""
    old_places = places_of(old)
    new_places = places_of(new)
    for at, one in enumerate(keys):
        for other in keys[at + 1:]:
            if are_crossing(old_places, new_places, one, other):
                return (one, other)
    return None


def placements(old, new, keys):
    """Return the operations that create and move whatever does not stay."""
    present = keys_of(old)
    steps = []
    for key, parent, before in targets(new):
        if key not in keys:
            word = "move" if key in present else "create"
            steps.append((word, key, parent, before))
    return steps


def targets(tree):
    """Return (key, parent, next sibling) of all elements but the root, the last children first."""
    # In this order the parent and the next sibling of an element are in their places ahead of it.
    found = []
    waiting = [(tree, None, None)]
    while waiting:
        item, parent, before = waiting.pop()
        found.append((item[0], parent, before))
        following = [child[0] for child in item[1][1:]] + [None]
        waiting.extend([(child, item[0], behind) for child, behind in zip(item[1], following)])
    return found[1:]


def removals(old, new):
    """Return the operations that remove what is only in old, each element with all that is inside it."""
    gone = removed(old, new)
    parents = parents_of(old)
    return [("remove", key) for key in gone if parents[key] not in gone]
