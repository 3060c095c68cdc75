"""Operations on trees, and costs."""

from keyedmoves.errors import BadOperations, Impossible
from keyedmoves.trees import is_key, parents_of, path_of, subtree, walk

MOST_OPERATIONS = 400
MOST_COST = 1000


def are_operations(value):
    """Return whether any value is operations."""
    if not isinstance(value, tuple) or len(value) > MOST_OPERATIONS:
        return False
    return all([is_operation(item) for item in value])


def is_operation(value):
    """Return whether any value is an operation, possible or not."""
    if not isinstance(value, tuple):
        return False
    if len(value) == 2:
        return value[0] == "remove" and is_key(value[1])
    if len(value) != 4 or value[0] not in ("create", "move"):
        return False
    return is_key(value[1]) and is_key(value[2]) and (value[3] is None or is_key(value[3]))


def run(tree, operations):
    """Return the tree after all operations."""
    return moments(tree, operations)[-1]


def moments(tree, operations):
    """Return the given tree and the one after each operation."""
    if not are_operations(operations):
        raise BadOperations(operations)
    trees = [tree]
    for index, operation in enumerate(operations):
        if not is_possible(trees[-1], operation):
            raise Impossible(index)
        trees.append(after(trees[-1], operation))
    return tuple(trees)


def is_possible(tree, operation):
    """Return whether an operation is possible."""
    if operation[0] == "create":
        return can_create(tree, operation)
    if operation[0] == "move":
        return can_move(tree, operation)
    return is_below_root(parents_of(tree), operation[1])


def can_create(tree, operation):
    """Return whether a "create" is possible."""
    parents = parents_of(tree)
    return operation[1] not in parents and is_place(parents, operation[2], operation[3])


def can_move(tree, operation):
    """Return whether a "move" is possible."""
    key, parent, before = operation[1:]
    parents = parents_of(tree)
    if not is_below_root(parents, key) or not is_place(parents, parent, before):
        return False
    return before != key and key not in path_of(tree, parent)


def is_below_root(parents, key):
    """Return whether there is an element key that is not the root."""
    return parents.get(key) is not None


def is_place(parents, parent, before):
    """Return whether there is an element parent, and before is None or one of its children."""
    if parent not in parents:
        return False
    return before is None or parents.get(before) == parent


def after(tree, operation):
    """Return the tree after an operation that is possible."""
    key = operation[1]
    if operation[0] == "create":
        return put_in(tree, (key, ()), operation[2], operation[3])
    rest = take_out(tree, key)
    if operation[0] == "remove":
        return rest
    return put_in(rest, subtree(tree, key), operation[2], operation[3])


def put_in(tree, item, parent, before):
    """Return the tree with item as a child of parent, ahead of before, the last one if that is None."""
    children = subtree(tree, parent)[1]
    at = len(children)
    if before is not None:
        at = [child[0] for child in children].index(before)
    return with_children(tree, parent, children[:at] + (item,) + children[at:])


def take_out(tree, key):
    """Return the tree without an element that is not the root."""
    parent = parents_of(tree)[key]
    children = subtree(tree, parent)[1]
    return with_children(tree, parent, tuple([child for child in children if child[0] != key]))


def with_children(tree, key, children):
    """Return the tree in which the element key has these children."""
    # Only the elements on the path are built anew, so that the trees of moments share the rest.
    old_children = {item[0]: item[1] for item in walk(tree)}
    changed = (key, children)
    for above in reversed(path_of(tree, key)[:-1]):
        siblings = [changed if child[0] == changed[0] else child for child in old_children[above]]
        changed = (above, tuple(siblings))
    return changed


def moved(operations):
    """Return the ascending tuple of the keys of all "move" operations."""
    return tuple(sorted({operation[1] for operation in operations if operation[0] == "move"}))


def cost_of(operations, costs):
    """Return the sum of the costs of all "move" operations."""
    cost_by_key = dict(costs)
    return sum([cost_by_key.get(operation[1], 1) for operation in operations if operation[0] == "move"])


def are_costs(value):
    """Return whether any value is costs."""
    if not isinstance(value, tuple) or not all([is_costs_pair(item) for item in value]):
        return False
    keys = [pair[0] for pair in value]
    return keys == sorted(set(keys))


def is_costs_pair(value):
    """Return whether any value is a pair that can be in costs."""
    if not isinstance(value, tuple) or len(value) != 2:
        return False
    return is_key(value[0]) and is_cost(value[1])


def is_cost(value):
    """Return whether any value is an integer that can be a cost."""
    return is_whole_number(value) and 1 <= value <= MOST_COST


def is_whole_number(value):
    """Return whether any value is an integer; a bool is none."""
    return isinstance(value, int) and not isinstance(value, bool)
