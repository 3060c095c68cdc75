"""What several test files need: keys, trees of given sizes, values of every kind, and a plain model."""

import itertools

LETTERS = "abcdefghijklmnopqrstuvwxyz"


def key_at(number):
    """Return the key of this number; different numbers give different keys."""
    return "k" + LETTERS[number // 26] + LETTERS[number % 26]


def chain(many):
    """Return a tree with this many elements, each one nested in the one before."""
    tree = ()
    for number in reversed(range(many)):
        tree = ((key_at(number), tree),)
    return tree[0]


def wide(many):
    """Return a tree with this many elements, all but the root being children of the root."""
    return key_at(0), tuple((key_at(number), ()) for number in range(1, many))


def nested(depth, wrap):
    """Return a value that is nested this deep, each level made by wrap."""
    value = "a"
    for _ in range(depth):
        value = wrap(value)
    return value


def any_values():
    """Return values of every kind that "any value" allows, nested up to 60 deep."""
    wraps = [
        lambda value: (value,),
        lambda value: [value],
        lambda value: {"a": value},
        lambda value: ("a", value),
        lambda value: ("a", (value,)) if isinstance(value, tuple) else ("a", ()),
        lambda value: [("move", "a", "b", None), value],
        lambda value: {0: [value], None: (), True: {}, ("a", ("b",)): "a"},
    ]
    plain = [None, True, False, 0, 1, -1, 2, 1001, 10 ** 100, "", "A", "a1", "a b", "a\n", "\u00e4", "-", "x" * 20000]
    small = [(), [], {}, (None,), (True,), (1,), ("",), [["a"]], {"a": "b"}, ("a",), ["a", ()], ("a", []), ("a", {}),
             ("a", None), ("a", "b"), ("a", ("b",)), ("a", (("b",),)), (("a", ()),), ("a", (), ()), (1, ()), ((), ()),
             (["a"], ()), ({}, ()), (True, 1), ("remove",), ("create", "a", "b"), ((((), ()), ()), ())]
    # The first four wraps add one level, the others two.
    deep = [nested(depth, wrap) for depth in (1, 29, 30, 58, 60) for wrap in wraps[:4]]
    deep += [nested(depth, wrap) for depth in (1, 2, 19, 29, 30) for wrap in wraps[4:]]
    return plain + small + deep


# The model: nested lists that are changed in place, by recursion, as section 3 of the document says.

def thaw(tree):
    return [tree[0], [thaw(child) for child in tree[1]]]


def freeze(node):
    return node[0], tuple(freeze(child) for child in node[1])


def find(node, key):
    if node[0] == key:
        return node
    for child in node[1]:
        found = find(child, key)
        if found is not None:
            return found
    return None


def find_parent(node, key):
    for child in node[1]:
        if child[0] == key:
            return node
        found = find_parent(child, key)
        if found is not None:
            return found
    return None


def model_insert(root, node, parent, before):
    children = find(root, parent)[1]
    at = len(children) if before is None else [child[0] for child in children].index(before)
    children.insert(at, node)


def model_place(root, parent, before):
    place = find(root, parent)
    return place is not None and (before is None or before in [child[0] for child in place[1]])


def model_step(tree, operation):
    """Return the tree after an operation, None if it is not possible."""
    root = thaw(tree)
    word, key, *place = operation
    node, parent = find(root, key), find_parent(root, key)
    if word == "create":
        if node is not None or not model_place(root, *place):
            return None
        model_insert(root, [key, []], *place)
        return freeze(root)
    if node is None or parent is None:
        return None
    if word == "move":
        if find(node, place[0]) is not None or place[1] == key or not model_place(root, *place):
            return None
        parent[1].remove(node)
        model_insert(root, node, *place)
        return freeze(root)
    parent[1].remove(node)
    return freeze(root)


def model_fault(old, new, operations):
    """Return what fault must return, straight from points [7] and [15]."""
    tree, done = old, []
    for index, operation in enumerate(operations):
        following = model_step(tree, operation)
        if following is None:
            return index
        if operation[0] == "create":
            key = operation[1]
            if find(thaw(new), key) is None or find(thaw(old), key) is not None or key in done:
                return index
            done.append(key)
        if operation[0] == "remove":
            gone = model_keys(find(thaw(tree), operation[1]))
            if any(find(thaw(new), key) is not None for key in gone):
                return index
        tree = following
    return None if tree == new else len(operations)


def model_keys(node):
    return [node[0]] + [key for child in node[1] for key in model_keys(child)]


def all_operations(keys):
    """Return every operation over these keys."""
    befores = list(keys) + [None]
    placed = [(word, *rest) for word in ("create", "move") for rest in itertools.product(keys, keys, befores)]
    return placed + [("remove", key) for key in keys]


def all_trees(root, keys):
    """Return every tree with this root and exactly these other keys."""
    trees = [(root, ())]
    for key in keys:
        trees = [grown for tree in trees for grown in grown_trees(tree, key)]
    return trees


def grown_trees(tree, key):
    """Return every tree that has one more element key, put in anywhere, around any run of siblings."""
    name, children = tree
    found = []
    for start in range(len(children) + 1):
        for stop in range(start, len(children) + 1):
            inner = (key, children[start:stop])
            found.append((name, children[:start] + (inner,) + children[stop:]))
    for at, child in enumerate(children):
        for grown in grown_trees(child, key):
            found.append((name, children[:at] + (grown,) + children[at + 1:]))
    return found


# Values that are almost right.

def with_one_list(value):
    """Yield the value once for each tuple in it, with a list in its place."""
    if isinstance(value, tuple):
        yield list(value)
        for at, item in enumerate(value):
            for changed in with_one_list(item):
                yield value[:at] + (changed,) + value[at + 1:]


def with_one_bool(value):
    """Yield the value once for each 0 and each 1 in it, with the bool that equals it in its place."""
    if value.__class__ is int and value in (0, 1):
        yield bool(value)
    if isinstance(value, tuple):
        for at, item in enumerate(value):
            for changed in with_one_bool(item):
                yield value[:at] + (changed,) + value[at + 1:]


def with_one_other(value, others):
    """Yield the value once for each part of it and each of the others, with the other one in its place."""
    yield from others
    if isinstance(value, tuple):
        for at, item in enumerate(value):
            for changed in with_one_other(item, others):
                yield value[:at] + (changed,) + value[at + 1:]


def in_blocks(many, size):
    """Return keys in ascending order, and the same with each block of this size backwards."""
    keys = tuple(key_at(number) for number in range(many))
    turned = [keys[start:start + size][::-1] for start in range(0, many, size)]
    return keys, tuple(key for block in turned for key in block)


def flat(root, keys):
    """Return a tree whose root has these children, none of which has children."""
    return root, tuple((key, ()) for key in keys)
