"""Keys and trees: what they are, and questions about the elements of a tree."""

from keyedmoves.errors import NoElement

LETTERS = "abcdefghijklmnopqrstuvwxyz"
MOST_LETTERS = 8
MOST_IN_TREE = 60
MOST_NESTED = 20


def is_key(value):
    """Return whether any value is a key."""
    if not isinstance(value, str) or not 1 <= len(value) <= MOST_LETTERS:
        return False
    return all([letter in LETTERS for letter in value])


def is_tree(value):
    """Return whether any value is a tree of a size that may be passed in."""
    # A loop instead of recursion: a value may be nested far deeper than a tree.
    waiting = [(value, 1)]
    seen = set()
    while waiting:
        item, depth = waiting.pop()
        if depth > MOST_NESTED or len(seen) == MOST_IN_TREE:
            return False
        if not looks_like_element(item) or item[0] in seen:
            return False
        seen.add(item[0])
        waiting.extend([(child, depth + 1) for child in item[1]])
    return True


def looks_like_element(value):
    """Return whether any value is a pair of a key and a tuple of whatever."""
    if not isinstance(value, tuple) or len(value) != 2:
        return False
    return is_key(value[0]) and isinstance(value[1], tuple)


def keys_of(tree):
    """Return the keys of all elements, each one ahead of those inside it."""
    return tuple([item[0] for item in walk(tree)])


def parent_of(tree, key):
    """Return the key of the parent of an element, None for the root."""
    path = path_of(tree, key)
    return path[-2] if len(path) > 1 else None


def children_of(tree, key):
    """Return the keys of the children of an element, in order."""
    return tuple([child[0] for child in subtree(tree, key)[1]])


def subtree(tree, key):
    """Return an element as a tree."""
    for item in walk(tree):
        if item[0] == key:
            return item
    raise NoElement(key)


def path_of(tree, key):
    """Return the keys from the root to an element."""
    parents = parents_of(tree)
    # Any value may be asked for, and a list cannot be looked up in a dict.
    if not isinstance(key, str) or key not in parents:
        raise NoElement(key)
    path = [key]
    while parents[path[-1]] is not None:
        path.append(parents[path[-1]])
    return tuple(path[::-1])


def is_inside(tree, key, other):
    """Return whether the element key is inside the element other."""
    path = path_of(tree, key)
    if other not in keys_of(tree):
        raise NoElement(other)
    return other in path[:-1]


def walk(tree):
    """Return the list of all elements, as trees, in the order of keys_of."""
    # A loop instead of recursion: up to 200 elements may be nested in one another.
    found = []
    waiting = [tree]
    while waiting:
        item = waiting.pop()
        found.append(item)
        waiting.extend(item[1][::-1])
    return found


def parents_of(tree):
    """Return a dict from the key of each element to that of its parent, None for the root."""
    parents = {tree[0]: None}
    for item in walk(tree):
        for child in item[1]:
            parents[child[0]] = item[0]
    return parents


def outline(tree):
    """Return (key, number of children) of all elements; two trees are equal exactly if these are."""
    return [(item[0], len(item[1])) for item in walk(tree)]
