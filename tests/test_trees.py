"""Points [5], [11] and [12]: trees.py."""

import unittest

from helpers import LETTERS, any_values, chain, key_at, wide
from keyedmoves.errors import NoElement
from keyedmoves.operations import run
from keyedmoves.trees import children_of, is_inside, is_key, is_tree, keys_of, parent_of, path_of, subtree

TREE = ("root", (("a", (("b", (("c", ()), ("d", ()))), ("e", ()))), ("f", ()), ("g", (("h", ()),))))
KEYS = ("root", "a", "b", "c", "d", "e", "f", "g", "h")


class IsKey(unittest.TestCase):
    def test_keys(self):
        for value in list(LETTERS) + ["menu", "abcdefgh", "zzzzzzzz", "aa", "move", "create", "remove"]:
            self.assertIs(is_key(value), True, value)

    def test_no_keys(self):
        wrong = ["", "abcdefghi", "Menu", "menU", "a b", " a", "a ", "a-", "-", "a1", "1", "a\n", "\n", "a_b", "{", "`",
                 "\u00e4", "\u00df", "\u03b1", "\uff41", "\u0131", "a\u0301", "\x00", "A", "Z"]
        for value in wrong:
            self.assertIs(is_key(value), False, value)

    def test_any_value(self):
        for value in any_values():
            self.assertIs(is_key(value), False, value)
        for value in (("a",), ["a"], {"a": "a"}, b"a", list("abc"), tuple("abc")):
            self.assertIs(is_key(value), False, value)


class IsTree(unittest.TestCase):
    def test_trees(self):
        for value in (("a", ()), TREE, ("abcdefgh", (("z", ()),)), ("a", (("aa", ()), ("aaa", ())))):
            self.assertIs(is_tree(value), True, value)

    def test_number_of_elements(self):
        self.assertIs(is_tree(wide(59)), True)
        self.assertIs(is_tree(wide(60)), True)
        self.assertIs(is_tree(wide(61)), False)
        self.assertIs(is_tree(wide(500)), False)

    def test_number_of_elements_of_a_tree_with_branches(self):
        for inner, expected in ((29, True), (30, False)):
            left = tuple((key_at(100 + number), ()) for number in range(inner))
            right = tuple((key_at(200 + number), ()) for number in range(28))
            self.assertIs(is_tree(("root", (("a", left), ("b", right)))), expected)

    def test_number_nested(self):
        self.assertIs(is_tree(chain(20)), True)
        self.assertIs(is_tree(chain(21)), False)
        self.assertIs(is_tree(chain(30)), False)
        self.assertIs(is_tree(("root", (("a", ()), chain(19), ("b", ())))), True)
        self.assertIs(is_tree(("root", (("a", ()), chain(20), ("b", ())))), False)

    def test_sixty_elements_twenty_nested(self):
        children = tuple((key_at(100 + number), ()) for number in range(40))
        self.assertIs(is_tree((key_at(0), chain(20)[1] + children)), True)
        self.assertIs(is_tree((key_at(0), chain(20)[1] + children + (("z", ()),))), False)

    def test_a_key_twice(self):
        self.assertIs(is_tree(("a", (("a", ()),))), False)
        self.assertIs(is_tree(("a", (("b", ()), ("b", ())))), False)
        self.assertIs(is_tree(("a", (("b", (("d", ()),)), ("c", (("d", ()),))))), False)
        self.assertIs(is_tree(("a", (("b", (("c", (("a", ()),)),)),))), False)

    def test_lists_are_not_tuples(self):
        wrong = [["a", ()], ("a", []), ("a", [("b", ())]), ("a", (["b", ()],)), ("a", (("b", []),)), (["a"], ())]
        for value in wrong:
            self.assertIs(is_tree(value), False, value)

    def test_wrong_parts(self):
        wrong = [("A", ()), ("", ()), ("abcdefghi", ()), ("a", None), ("a", ""), ("a", "bc"), ("a", {}), ("a",),
                 ("a", (), ()), ("a", ("b", ())), ("a", (("b", ()), None)), ("a", (("b", ()), "c")), ("a", ((),)),
                 ("a", (("b", (("C", ()),)),)), (True, ()), (None, ()), (1, ()), ("a", 0), ("a", (0,)), "ab", {"a": ()}]
        for value in wrong:
            self.assertIs(is_tree(value), False, value)

    def test_any_value(self):
        for value in any_values():
            expected = value == ("a", ())
            self.assertIs(is_tree(value), expected, value)

    def test_what_was_returned(self):
        creates = tuple(("create", key_at(number + 1), key_at(number), None) for number in range(199))
        self.assertIs(is_tree(run((key_at(0), ()), creates)), False)


class Questions(unittest.TestCase):
    def test_keys_of(self):
        self.assertEqual(keys_of(TREE), KEYS)
        self.assertEqual(keys_of(("a", ())), ("a",))
        self.assertEqual(keys_of(("a", (("c", ()), ("b", ())))), ("a", "c", "b"))

    def test_parent_of(self):
        expected = (None, "root", "a", "b", "b", "a", "root", "root", "g")
        self.assertEqual(tuple(parent_of(TREE, key) for key in KEYS), expected)

    def test_children_of(self):
        expected = (("a", "f", "g"), ("b", "e"), ("c", "d"), (), (), (), (), ("h",), ())
        self.assertEqual(tuple(children_of(TREE, key) for key in KEYS), expected)

    def test_subtree(self):
        self.assertEqual(subtree(TREE, "root"), TREE)
        self.assertEqual(subtree(TREE, "b"), ("b", (("c", ()), ("d", ()))))
        self.assertEqual(subtree(TREE, "g"), ("g", (("h", ()),)))
        self.assertEqual(subtree(TREE, "f"), ("f", ()))

    def test_path_of(self):
        self.assertEqual(path_of(TREE, "root"), ("root",))
        self.assertEqual(path_of(TREE, "d"), ("root", "a", "b", "d"))
        self.assertEqual(path_of(TREE, "h"), ("root", "g", "h"))

    def test_is_inside(self):
        for other, inside in (("root", KEYS[1:]), ("a", ("b", "c", "d", "e")), ("b", ("c", "d")), ("c", ()),
                              ("f", ()), ("g", ("h",))):
            for key in KEYS:
                self.assertIs(is_inside(TREE, key, other), key in inside, (key, other))


class NoSuchElement(unittest.TestCase):
    def check(self, expected, question, *arguments):
        with self.assertRaises(NoElement) as caught:
            question(*arguments)
        self.assertIs(caught.exception.key, expected)

    def test_any_value(self):
        for value in [*any_values(), "x", "roo", "roott", "A", "ab", ("root",), ["a"], TREE, ("f", ()), b"a"]:
            for question in (parent_of, children_of, subtree, path_of):
                self.check(value, question, TREE, value)
            self.check(value, is_inside, TREE, value, "a")
            self.check(value, is_inside, TREE, "a", value)
            self.check(value, is_inside, TREE, value, value)

    def test_the_first_of_both(self):
        self.check("x", is_inside, TREE, "x", "y")
        nothing, other = [], {}
        self.check(nothing, is_inside, TREE, nothing, other)
        self.check(None, is_inside, TREE, None, other)


class DeeplyNested(unittest.TestCase):
    """Up to 200 elements nested in one another, and more than 60 in all."""

    def test_a_chain_of_200(self):
        tree = chain(200)
        keys = tuple(key_at(number) for number in range(200))
        self.assertEqual(keys_of(tree), keys)
        self.assertEqual(path_of(tree, keys[199]), keys)
        self.assertEqual(parent_of(tree, keys[199]), keys[198])
        self.assertEqual(children_of(tree, keys[198]), (keys[199],))
        self.assertEqual(subtree(tree, keys[198]), (keys[198], ((keys[199], ()),)))
        self.assertIs(is_inside(tree, keys[199], keys[0]), True)
        self.assertIs(is_inside(tree, keys[0], keys[199]), False)
        for question in (parent_of, children_of, subtree, path_of):
            with self.assertRaises(NoElement):
                question(tree, "x")

    def test_a_tree_of_500(self):
        tree = wide(500)
        self.assertEqual(len(keys_of(tree)), 500)
        self.assertEqual(children_of(tree, key_at(0)), keys_of(tree)[1:])
        self.assertEqual(path_of(tree, key_at(499)), (key_at(0), key_at(499)))


if __name__ == "__main__":
    unittest.main()
