"""The cheapest updates of a tree of keyed elements."""
