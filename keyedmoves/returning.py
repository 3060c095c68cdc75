"""The way back of a patch, two patches joined into one, and patches cut into batches."""

from keyedmoves.errors import NotPatch, TooDear
from keyedmoves.operations import cost_of
from keyedmoves.patches import check_roots, is_patch, staying
from keyedmoves.staying import patch_with


def way_back(old, new, operations):
    """Return a patch from new to old that moves the same elements, each once."""
    check_patch(old, new, operations)
    return patch_with(new, old, staying(old, new, operations))


def joined(old, middle, new, first, second):
    """Return a patch from old to new that moves what one of both patches moves or middle does not have."""
    check_roots(old, middle)
    check_roots(middle, new)
    check_patch(old, middle, first)
    check_patch(middle, new, second)
    unmoved_later = staying(middle, new, second)
    keys = [key for key in staying(old, middle, first) if key in unmoved_later]
    return patch_with(old, new, tuple(keys))


def batched(operations, costs, most):
    """Return the operations cut into as few parts as possible, the cost of each at most most."""
    parts = []
    part = []
    spent = 0
    for operation in operations:
        cost = cost_of((operation,), costs)
        if operation[0] == "move" and cost > most:
            raise TooDear(operation[1])
        if part and spent + cost > most:
            parts.append(tuple(part))
            part = []
            spent = 0
        part.append(operation)
        spent += cost
    if part:
        parts.append(tuple(part))
    return tuple(parts)


def check_patch(old, new, value):
    """Raise NotPatch if any value is not a patch from old to new."""
    if not is_patch(old, new, value):
        raise NotPatch(value)
