"""A live view of a tree, with costs, focused elements and undo."""

from keyedmoves.cheapest import cheapest_patch
from keyedmoves.errors import BadCosts, BadTree, Lost, NoElement, NotFocused, NothingToUndo, Root
from keyedmoves.operations import are_costs, cost_of, is_costs_pair
from keyedmoves.patches import check_roots
from keyedmoves.trees import is_tree, keys_of


class View:
    """A tree, costs and focused elements, and the earlier states to go back to."""

    def __init__(self, tree, costs=()):
        if not is_tree(tree):
            raise BadTree(tree)
        if not are_costs(costs):
            raise BadCosts(costs)
        self.present = tree
        self.prices = costs
        self.held = ()
        self.paid = 0
        self.earlier = []

    def tree(self):
        """Return the present tree."""
        return self.present

    def costs(self):
        """Return the costs."""
        return self.prices

    def focused(self):
        """Return the ascending tuple of the keys of the focused elements."""
        return self.held

    def focus(self, key):
        """Focus an element."""
        if key not in keys_of(self.present):
            raise NoElement(key)
        if key == self.present[0]:
            raise Root(key)
        self.remember()
        self.held = tuple(sorted(set(self.held + (key,))))

    def blur(self, key):
        """End the focus of an element."""
        if key not in self.held:
            raise NotFocused(key)
        self.remember()
        self.held = tuple([other for other in self.held if other != key])

    def price(self, key, cost):
        """Give a key a cost."""
        pair = (key, cost)
        if not is_costs_pair(pair):
            raise BadCosts(pair)
        self.remember()
        self.prices = tuple(sorted([other for other in self.prices if other[0] != key] + [pair]))

    def update(self, tree):
        """Go to another tree by a cheapest patch, and return the patch."""
        patch = self.preview(tree)
        self.remember()
        self.present = tree
        self.paid += cost_of(patch, self.prices)
        return patch

    def preview(self, tree):
        """Return the patch by which update would go to another tree."""
        if not is_tree(tree):
            raise BadTree(tree)
        check_roots(self.present, tree)
        coming = keys_of(tree)
        gone = [key for key in self.held if key not in coming]
        if gone:
            raise Lost(tuple(gone))
        return cheapest_patch(self.present, tree, self.prices, focused=self.held)

    def spent(self):
        """Return the sum of the costs of all updates that have not been undone, each at the costs of its time."""
        return self.paid

    def undo(self):
        """Restore the state before the last call that changed the view and has not been undone."""
        if not self.earlier:
            raise NothingToUndo()
        self.present, self.prices, self.held, self.paid = self.earlier.pop()

    def changes(self):
        """Return how many calls can be undone."""
        return len(self.earlier)

    def copy(self):
        """Return an independent view in the same state, with the same calls to undo."""
        twin = View(self.present, self.prices)
        twin.held = self.held
        twin.paid = self.paid
        # A list of its own, so that neither view undoes calls of the other; the states in it never change.
        twin.earlier = list(self.earlier)
        return twin

    def remember(self):
        """Keep the present state as the one that the next undo restores."""
        self.earlier.append((self.present, self.prices, self.held, self.paid))

    def __eq__(self, other):
        return (isinstance(other, View) and self.present == other.present and self.prices == other.prices
                and self.held == other.held)

    def __len__(self):
        return len(keys_of(self.present))
