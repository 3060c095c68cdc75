"""Points [10], [20] and [21] once more, straight from their words, by recursion and by going through all pairs."""

import itertools

from helpers import find_parent, thaw
from search import keys_in


def model_steady(old, new, key):
    """Return whether an element is steady, by point [10]."""
    if key == old[0] or key not in keys_in(old) & keys_in(new):
        return False
    return find_parent(thaw(old), key)[0] == find_parent(thaw(new), key)[0]


def model_cross(old, new, one, other):
    """Return whether two elements cross, by point [10]."""
    if one == other or not model_steady(old, new, one) or not model_steady(old, new, other):
        return False
    orders = []
    for tree in (old, new):
        siblings = [child[0] for child in find_parent(thaw(tree), one)[1]]
        if other not in siblings:
            return False
        orders.append(siblings.index(one) < siblings.index(other))
    return orders[0] != orders[1]


def model_conflict(old, new, keys):
    """Return what conflict must return, by point [20]."""
    loose = [key for key in keys if not model_steady(old, new, key)]
    if loose:
        return (min(loose),)
    pairs = [pair for pair in itertools.combinations(sorted(keys), 2) if model_cross(old, new, *pair)]
    return min(pairs) if pairs else None


def model_patch(old, new, keys):
    """Return the operations of point [21], by recursion."""
    steps = []

    def place_children(element):
        name, children = element
        before = None
        for child in reversed(children):
            if child[0] not in keys_in(old):
                steps.append(("create", child[0], name, before))
            elif child[0] not in keys:
                steps.append(("move", child[0], name, before))
            place_children(child)
            before = child[0]

    place_children(new)
    gone = keys_in(old) - keys_in(new)
    steps.extend(("remove", key) for key in sorted(gone) if find_parent(thaw(old), key)[0] not in gone)
    return tuple(steps)
