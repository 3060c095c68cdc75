"""Trees, costs and focused elements that are drawn at random, always the same ones."""

from helpers import find, key_at, model_keys, model_step, thaw


def random_tree(numbers, keys, most_nested):
    """Return a tree of these keys, the first one being the root."""
    depths, children = {keys[0]: 1}, {key: [] for key in keys}
    for key in keys[1:]:
        parent = numbers.choice([other for other in depths if depths[other] < most_nested])
        depths[key] = depths[parent] + 1
        children[parent].insert(numbers.randrange(len(children[parent]) + 1), key)

    def build(key):
        return key, tuple(build(child) for child in children[key])

    return build(keys[0])


def random_pair(numbers, many, most_nested=20):
    """Return two trees of at most 60 elements that share most of their keys and many of their places."""
    keys = [key_at(number) for number in range(many)]
    inner = keys[1:]
    numbers.shuffle(inner)
    old = random_tree(numbers, [keys[0], *inner], most_nested)
    new = old
    for _ in range(numbers.randrange(14)):
        new = random_step(numbers, new, most_nested)
    return (old, new) if numbers.random() < 0.5 else (new, old)


def drawn_step(numbers, tree, words):
    """Return an operation with one of these words and the tree after it, None if it is not possible."""
    keys = model_keys(thaw(tree))
    parent = numbers.choice(keys)
    before = numbers.choice([child[0] for child in find(thaw(tree), parent)[1]] + [None])
    word = numbers.choice(words)
    key = key_at(numbers.randrange(100, 600)) if word == "create" else numbers.choice(keys)
    step = (word, key) if word == "remove" else (word, key, parent, before)
    return step, model_step(tree, step)


def random_step(numbers, tree, most_nested):
    """Return the tree after an operation that keeps it within its limits."""
    while True:
        _, after = drawn_step(numbers, tree, ("create", "move", "move", "move", "move", "remove"))
        if after is not None and len(model_keys(thaw(after))) <= 60 and nesting(after) <= most_nested:
            return after


def nesting(tree):
    """Return how many elements are nested in one another."""
    return 1 + max([nesting(child) for child in tree[1]], default=0)


def random_costs(numbers, keys, choices):
    """Return costs of some of these keys and of one that is nowhere."""
    chosen = [key for key in sorted(set(keys)) if numbers.random() < 0.7]
    return tuple((key, numbers.choice(choices)) for key in chosen) + (("zz", 1000),)


def random_staying(numbers, keys, can_all_stay):
    """Return an ascending tuple of keys that can all stay, drawn from these."""
    chosen = ()
    for key in numbers.sample(sorted(keys), len(keys)):
        wanted = tuple(sorted((*chosen, key)))
        if numbers.random() < 0.3 and can_all_stay(wanted):
            chosen = wanted
    return chosen


def random_patch(numbers, old, many, words=("create", "move", "move", "move", "remove")):
    """Return this many operations that are a patch from old to wherever they lead."""
    old_keys, tree, steps, created = set(model_keys(thaw(old))), old, [], set()
    while len(steps) < many:
        step, after = drawn_step(numbers, tree, words)
        # What is created must not have been in old, and what is removed must not come from this very patch.
        if after is None or (step[0] == "create" and step[1] in old_keys):
            continue
        if step[0] == "remove" and created & set(model_keys(find(thaw(tree), step[1]))):
            continue
        if step[0] == "create":
            created.add(step[1])
        steps.append(step)
        tree = after
    return tuple(steps)
