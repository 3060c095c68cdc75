"""A record that a test keeps itself beside a view: what each call must return or raise, and the state after it."""

from helpers import find, model_fault, model_keys, thaw
from keyedmoves.cheapest import cheapest_patch
from keyedmoves.errors import KeyedError
from keyedmoves.trees import is_tree
from model_staying import model_conflict


def outcome(call, *arguments):
    """Return ("returned", value), or the name and the attributes of the error that a call raises."""
    try:
        return "returned", call(*arguments)
    except KeyedError as error:
        return error.__class__.__name__, vars(error)


def state_of(view):
    """Return all that a view shows of itself."""
    return view.tree(), view.costs(), view.focused(), view.spent(), view.changes(), len(view)


def is_proper_key(value):
    """Return whether any value is a key, by point [5]."""
    return isinstance(value, str) and 1 <= len(value) <= 8 and all("a" <= letter <= "z" for letter in value)


class Record:
    """The present state and all earlier ones, as point [26] speaks of them."""

    def __init__(self, tree, costs=()):
        self.now = {"tree": tree, "costs": dict(costs), "focused": set(), "spent": 0}
        self.past = []

    def state(self):
        """Return what state_of must return for the view."""
        tree = self.now["tree"]
        costs = tuple((key, self.now["costs"][key]) for key in sorted(self.now["costs"]))
        focused = tuple(sorted(self.now["focused"]))
        return tree, costs, focused, self.now["spent"], len(self.past), len(model_keys(thaw(tree)))

    def expect(self, name, *arguments):
        """Return the outcome that a call of this method must have, and go to the state after it."""
        return getattr(self, "expect_" + name)(*arguments)

    def change(self, **parts):
        self.past.append(self.now)
        self.now = {**self.now, **parts}

    def has(self, key):
        return isinstance(key, str) and find(thaw(self.now["tree"]), key) is not None

    def expect_focus(self, key):
        if not self.has(key):
            return "NoElement", {"key": key}
        if key == self.now["tree"][0]:
            return "Root", {"key": key}
        self.change(focused=self.now["focused"] | {key})
        return "returned", None

    def expect_blur(self, key):
        if not isinstance(key, str) or key not in self.now["focused"]:
            return "NotFocused", {"key": key}
        self.change(focused=self.now["focused"] - {key})
        return "returned", None

    def expect_price(self, key, cost):
        if not is_proper_key(key) or cost.__class__ is not int or not 1 <= cost <= 1000:
            return "BadCosts", {"value": (key, cost)}
        self.change(costs={**self.now["costs"], key: cost})
        return "returned", None

    def expect_preview(self, tree):
        if not is_tree(tree):
            return "BadTree", {"value": tree}
        if tree[0] != self.now["tree"][0]:
            return "DifferentRoots", {}
        focused = tuple(sorted(self.now["focused"]))
        lost = tuple(key for key in focused if find(thaw(tree), key) is None)
        if lost:
            return "Lost", {"value": lost}
        found = model_conflict(self.now["tree"], tree, focused)
        if found is not None:
            return "Conflict", {"value": found}
        return "returned", cheapest_patch(self.now["tree"], tree, self.state()[1], focused=focused)

    def expect_update(self, tree):
        word, value = self.expect_preview(tree)
        if word == "returned":
            moves = [step[1] for step in value if step[0] == "move"]
            # Guarantee (g): the patch leads from tree to tree, and no focused element is moved.
            assert model_fault(self.now["tree"], tree, value) is None and not self.now["focused"] & set(moves)
            cost = sum(self.now["costs"].get(key, 1) for key in moves)
            self.change(tree=tree, spent=self.now["spent"] + cost)
        return word, value

    def expect_undo(self):
        if not self.past:
            return "NothingToUndo", {}
        self.now = self.past.pop()
        return "returned", None
