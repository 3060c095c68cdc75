"""Trees and operations written as texts, and read back."""

from keyedmoves.errors import BadText
from keyedmoves.operations import MOST_OPERATIONS, is_operation
from keyedmoves.trees import MOST_IN_TREE, MOST_NESTED, is_key


def show_tree(tree):
    """Return the text of a tree."""
    # A loop instead of recursion: up to 200 elements may be nested in one another.
    lines = []
    waiting = [(tree, 0)]
    while waiting:
        item, depth = waiting.pop()
        lines.append("  " * depth + item[0])
        waiting.extend([(child, depth + 1) for child in item[1][::-1]])
    return "\n".join(lines)


def show_operations(operations):
    """Return the text of operations."""
    return "\n".join([show_operation(operation) for operation in operations])


def show_operation(operation):
    """Return the line of an operation."""
    return " ".join(["-" if word is None else word for word in operation])


def read_tree(text):
    """Return the tree whose text any value is."""
    waiting = [[] for depth in range(MOST_NESTED + 1)]
    # From the last line to the first, so that all children of an element are complete ahead of it.
    for depth, key in reversed(read_rows(text)):
        children = waiting[depth + 1]
        waiting[depth + 1] = []
        waiting[depth].append((key, tuple(children[::-1])))
    return waiting[0][0]


def read_rows(text):
    """Return the list of (depth, key) of the lines of any value that is the text of a tree."""
    check_string(text)
    rows = []
    seen = set()
    for index, line in enumerate(text.split("\n")):
        key = line.lstrip(" ")
        depth, odd = divmod(len(line) - len(key), 2)
        if odd == 1 or not is_key(key) or key in seen or not can_follow(rows, depth):
            raise BadText(index)
        seen.add(key)
        rows.append((depth, key))
    return rows


def can_follow(rows, depth):
    """Return whether a tree with these rows may have one more element, the last one, at this depth."""
    if not rows:
        return depth == 0
    # An element at depth 0 would be a second root.
    is_in_reach = 1 <= depth <= rows[-1][0] + 1
    return is_in_reach and depth < MOST_NESTED and len(rows) < MOST_IN_TREE


def read_operations(text):
    """Return the operations whose text any value is."""
    check_string(text)
    # The text of no operations has no lines, where split would find an empty one.
    lines = text.split("\n") if text != "" else []
    found = []
    for index, line in enumerate(lines):
        operation = read_operation(line)
        if index >= MOST_OPERATIONS or not is_operation(operation):
            raise BadText(index)
        found.append(operation)
    return tuple(found)


def read_operation(line):
    """Return the words of a line as they stand in an operation, whether it is one or not."""
    words = line.split(" ")
    if len(words) == 4 and words[3] == "-":
        return (words[0], words[1], words[2], None)
    return tuple(words)


def check_string(value):
    """Raise BadText if any value is not a string."""
    if not isinstance(value, str):
        raise BadText(0)
