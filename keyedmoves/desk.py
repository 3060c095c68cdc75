"""A desk that executes lines of text on a view."""

from keyedmoves.errors import BadLine, BadText
from keyedmoves.texts import read_tree, show_operation, show_tree
from keyedmoves.trees import children_of, is_key, path_of
from keyedmoves.view import View

DIGITS = "0123456789"
MOST_DIGITS = 4
DONE = "done"
NOTHING = "-"


# One function for each word, all of them alike, so that the tables below can name them.
def say_update(view, tree):
    return steps_in_line(view.update(tree))


def say_preview(view, tree):
    return steps_in_line(view.preview(tree))


def say_focus(view, key):
    view.focus(key)
    return DONE


def say_blur(view, key):
    view.blur(key)
    return DONE


def say_children(view, key):
    return keys_in_line(children_of(view.tree(), key))


def say_path(view, key):
    return keys_in_line(path_of(view.tree(), key))


def say_price(view, key, cost):
    view.price(key, cost)
    return DONE


def say_undo(view):
    view.undo()
    return DONE


def say_tree(view):
    return show_tree(view.tree()).replace("\n", " / ")


def say_focused(view):
    return keys_in_line(view.focused())


def say_spent(view):
    return str(view.spent())


def say_size(view):
    return str(len(view))


WITH_A_TREE = {"update": say_update, "preview": say_preview}
WITH_A_KEY = {"focus": say_focus, "blur": say_blur, "children": say_children, "path": say_path}
ALONE = {"undo": say_undo, "tree": say_tree, "focused": say_focused, "spent": say_spent, "size": say_size}


class Desk:
    """A view, and the lines that ask and change it."""

    def __init__(self, text):
        self.view = View(read_tree(text))

    def say(self, line):
        """Execute a line and return the answer."""
        if not isinstance(line, str):
            raise BadLine(line)
        head, feed, text = line.partition("\n")
        if feed == "\n" and head in WITH_A_TREE:
            action = WITH_A_TREE[head]
            return action(self.view, tree_behind(line, text))
        if line in ALONE:
            action = ALONE[line]
            return action(self.view)
        words = line.split(" ")
        if len(words) == 2 and words[0] in WITH_A_KEY and is_key(words[1]):
            action = WITH_A_KEY[words[0]]
            return action(self.view, words[1])
        if len(words) == 3 and words[0] == "price" and is_key(words[1]) and is_number(words[2]):
            return say_price(self.view, words[1], int(words[2]))
        raise BadLine(line)


def tree_behind(line, text):
    """Return the tree whose text stands behind the first word of a line."""
    try:
        return read_tree(text)
    except BadText:
        raise BadLine(line) from None


def is_number(word):
    """Return whether a word is a decimal number as the desk reads it."""
    if not 1 <= len(word) <= MOST_DIGITS or word[0] == "0":
        return False
    return all([sign in DIGITS for sign in word])


def steps_in_line(patch):
    """Return the operations of a patch in one line."""
    return ", ".join([show_operation(operation) for operation in patch]) if patch else NOTHING


def keys_in_line(keys):
    """Return keys in one line."""
    return " ".join(keys) if keys else NOTHING
