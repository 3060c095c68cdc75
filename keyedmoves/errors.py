"""The errors of the package."""


class KeyedError(ValueError):
    """The base class of all errors of the package."""


class NoElement(KeyedError):
    """A tree has no element of this key."""

    def __init__(self, key):
        self.key = key


class BadOperations(KeyedError):
    """A value is not a tuple of at most 400 operations."""

    def __init__(self, value):
        self.value = value


class Impossible(KeyedError):
    """The operation of this index is not possible."""

    def __init__(self, index):
        self.index = index


class DifferentRoots(KeyedError):
    """The roots of trees that belong together have different keys."""


class NoNumber(KeyedError):
    """There is nothing of this number."""

    def __init__(self, number):
        self.number = number


class NotKept(KeyedError):
    """A value is not an ascending tuple of kept keys."""

    def __init__(self, value):
        self.value = value


class Conflict(KeyedError):
    """Elements cannot all stay; the value names the ones to blame."""

    def __init__(self, value):
        self.value = value


class NotPatch(KeyedError):
    """A value is not a patch from the one tree to the other."""

    def __init__(self, value):
        self.value = value


class TooDear(KeyedError):
    """The move of this element alone costs more than allowed."""

    def __init__(self, key):
        self.key = key


class BadTree(KeyedError):
    """A value is not a tree."""

    def __init__(self, value):
        self.value = value


class BadCosts(KeyedError):
    """A value is not costs."""

    def __init__(self, value):
        self.value = value


class Root(KeyedError):
    """The element of this key is the root."""

    def __init__(self, key):
        self.key = key


class NotFocused(KeyedError):
    """There is no focused element of this key."""

    def __init__(self, key):
        self.key = key


class Lost(KeyedError):
    """A new tree does not have these focused elements."""

    def __init__(self, value):
        self.value = value


class NothingToUndo(KeyedError):
    """There is no call to undo."""


class BadText(KeyedError):
    """A text is wrong in the line of this index."""

    def __init__(self, line):
        self.line = line


class BadLine(KeyedError):
    """A line has none of the forms that the desk knows."""

    def __init__(self, line):
        self.line = line
