"""Patches: operations that lead from one tree to another and keep what is in both."""

from keyedmoves.errors import DifferentRoots
from keyedmoves.operations import MOST_OPERATIONS, after, are_operations, is_possible, moved
from keyedmoves.trees import keys_of, outline, subtree


def fault(old, new, operations):
    """Return None if the operations are a patch from old to new, otherwise the index of the fault."""
    check_roots(old, new)
    tree = old
    for index, operation in enumerate(operations):
        if not is_possible(tree, operation) or not is_allowed(old, new, tree, operation):
            return index
        tree = after(tree, operation)
    # Outlines are compared, not trees, because comparing trees is a recursion as deep as they are.
    if len(operations) > MOST_OPERATIONS or outline(tree) != outline(new):
        return len(operations)
    return None


def is_allowed(old, new, tree, operation):
    """Return whether a patch may have an operation that is possible for its present tree."""
    key = operation[1]
    if operation[0] == "create":
        # A second "create" of a key of new is impossible: what the first one made is never removed.
        return key in keys_of(new) and key not in keys_of(old)
    if operation[0] == "remove":
        needed = keys_of(new)
        return not any([inner in needed for inner in keys_of(subtree(tree, key))])
    return True


def is_patch(old, new, value):
    """Return whether any value is a patch from old to new."""
    check_roots(old, new)
    return are_operations(value) and fault(old, new, value) is None


def kept(old, new):
    """Return the ascending tuple of the keys of all kept elements."""
    check_roots(old, new)
    return tuple(sorted(set(keys_of(old)[1:]) & set(keys_of(new)[1:])))


def created(old, new):
    """Return the ascending tuple of the keys of all created elements."""
    check_roots(old, new)
    return tuple(sorted(set(keys_of(new)) - set(keys_of(old))))


def removed(old, new):
    """Return the ascending tuple of the keys of all removed elements."""
    check_roots(old, new)
    return tuple(sorted(set(keys_of(old)) - set(keys_of(new))))


def staying(old, new, operations):
    """Return the ascending tuple of the kept elements that no "move" of the operations names."""
    both = kept(old, new)
    named = moved(operations)
    return tuple([key for key in both if key not in named])


def check_roots(old, new):
    """Raise DifferentRoots if the roots of both trees have different keys."""
    if old[0] != new[0]:
        raise DifferentRoots()
