"""Point [27] and the first half of guarantee (h): texts.py."""

import itertools
import random
import re
import unittest

from changed_texts import changed_texts
from helpers import LETTERS, all_operations, all_trees, any_values, chain, flat, key_at, wide
from keyedmoves.cheapest import cheapest_patch
from keyedmoves.errors import BadText
from keyedmoves.operations import are_operations, run
from keyedmoves.texts import read_operations, read_tree, show_operations, show_tree
from keyedmoves.trees import is_tree
from randoms import random_pair, random_patch

TREE = ("root", (("a", (("b", ()), ("abcdefgh", (("d", ()),)))), ("c", (("e", ()),))))
TREE_TEXT = "root\n  a\n    b\n    abcdefgh\n      d\n  c\n    e"
STEPS = (("create", "n", "root", None), ("move", "a", "n", "b"), ("remove", "abcdefgh"), ("move", "c", "a", None),
         ("create", "move", "remove", "create"))
STEPS_TEXT = "create n root -\nmove a n b\nremove abcdefgh\nmove c a -\ncreate move remove create"


def model_tree_text(tree, inside=0):
    """Return the text of a tree, by recursion."""
    return "\n".join(["  " * inside + tree[0]] + [model_tree_text(child, inside + 1) for child in tree[1]])


def first_wrong_tree_line(text):
    """Return the index of the line that BadText must name, None if the text is that of a tree.

    The first lines of the text of a tree are the text of a tree, too.
    """
    lines, path, keys = text.split("\n"), [], []
    for index, line in enumerate(lines):
        match = re.fullmatch("((?:  )*)([a-z]{1,8})", line, re.ASCII)
        if match is None or match[2] in keys or index == 60:
            return index
        depth = len(match[1]) // 2
        if depth > len(path) or depth == 20 or (depth == 0) != (index == 0):
            return index
        path = [*path[:depth], match[2]]
        keys.append(match[2])
    return None


def first_wrong_operations_line(text):
    """Return the index of the line that BadText must name, None if the text is that of operations."""
    key = "[a-z]{1,8}"
    for index, line in enumerate(text.split("\n") if text else []):
        if index == 400 or re.fullmatch(f"(create|move) {key} {key} ({key}|-)|remove {key}", line) is None:
            return index
    return None


class TextsTest(unittest.TestCase):
    def check_bad(self, line, read, value):
        with self.assertRaises(BadText, msg=repr(value)) as caught:
            read(value)
        self.assertEqual(caught.exception.line, line, repr(value))
        self.assertIs(caught.exception.line.__class__, int)

    def check_changed(self, texts, read, show, model):
        """Check texts that are almost right: each is either refused in the line of the model, or read and written."""
        refused = 0
        for text in texts:
            line = model(text)
            if line is None:
                self.assertEqual(show(read(text)), text)
            else:
                refused += 1
                self.check_bad(line, read, text)
        self.assertGreater(refused, 200)


class ShowTree(TextsTest):
    def test_the_text(self):
        self.assertEqual(show_tree(TREE), TREE_TEXT)
        self.assertEqual(show_tree(("a", ())), "a")
        self.assertEqual(show_tree(flat("r", "cab")), "r\n  c\n  a\n  b")

    def test_60_elements_and_20_nested(self):
        self.assertEqual(show_tree(wide(60)), "\n  ".join(key_at(number) for number in range(60)))
        self.assertEqual(show_tree(chain(20)), "\n".join("  " * number + key_at(number) for number in range(20)))

    def test_what_was_returned(self):
        creates = tuple(("create", key_at(number + 1), key_at(number), None) for number in range(199))
        text = show_tree(run((key_at(0), ()), creates))
        self.assertEqual(text, "\n".join("  " * number + key_at(number) for number in range(200)))
        self.check_bad(20, read_tree, text)
        large = run(wide(60), tuple(("create", key_at(number), key_at(0), None) for number in range(60, 460)))
        self.assertEqual(show_tree(large).count("\n"), 459)
        self.check_bad(60, read_tree, show_tree(large))

    def test_all_small_trees(self):
        for tree in all_trees("r", "abcd"):
            self.assertEqual(show_tree(tree), model_tree_text(tree))


class ReadTree(TextsTest):
    def test_the_tree(self):
        self.assertEqual(read_tree(TREE_TEXT), TREE)
        self.assertEqual(read_tree("a"), ("a", ()))
        self.assertEqual(read_tree("abcdefgh"), ("abcdefgh", ()))

    def test_every_letter(self):
        for letter in LETTERS:
            for key in (letter, letter * 8, letter + "b", "b" + letter):
                self.assertEqual(read_tree(key), (key, ()))
                self.assertEqual(read_tree("root\n  " + key), ("root", ((key, ()),)))
                self.assertEqual(read_operations(f"move {key} {key} {key}\nremove {key}"),
                                 (("move", key, key, key), ("remove", key)))

    def test_read_back(self):
        """Guarantee (h)."""
        numbers = random.Random(33)
        trees = all_trees("r", "abcd") + [wide(60), chain(20), (key_at(0), chain(20)[1] + wide(60)[1][19:])]
        for most_nested in (2, 5, 20) * 10:
            trees += random_pair(numbers, 60, most_nested)
        for tree in trees:
            self.assertIs(is_tree(tree), True)
            self.assertEqual(read_tree(show_tree(tree)), tree)

    def test_not_a_string(self):
        for value in [*any_values(), b"a", TREE, ["root"], ("root",)]:
            if not isinstance(value, str):
                self.check_bad(0, read_tree, value)

    def test_any_string(self):
        for value in any_values():
            if isinstance(value, str):
                self.check_bad(1 if value == "a\n" else 0, read_tree, value)

    def test_the_empty_text_and_a_line_feed_at_the_end(self):
        self.check_bad(0, read_tree, "")
        self.check_bad(0, read_tree, "\n")
        self.check_bad(0, read_tree, "\na")
        self.check_bad(1, read_tree, "a\n")
        self.check_bad(2, read_tree, "a\n  b\n")
        self.check_bad(7, read_tree, TREE_TEXT + "\n")
        self.check_bad(1, read_tree, "a\n\n  b")
        self.check_bad(1, read_tree, "a\n  ")

    def test_a_key_twice(self):
        self.check_bad(1, read_tree, "a\n  a")
        self.check_bad(3, read_tree, "a\n  b\n  c\n    b")
        self.check_bad(2, read_tree, "a\n  b\n  b\nc")

    def test_too_far_in(self):
        self.check_bad(1, read_tree, "a\n    b")
        self.check_bad(3, read_tree, "a\n  b\n  c\n      d")
        self.check_bad(3, read_tree, "a\n  b\n    c\n        d")
        self.check_bad(0, read_tree, "  a")
        self.check_bad(0, read_tree, " a")
        self.check_bad(1, read_tree, "a\n b")
        self.check_bad(1, read_tree, "a\n   b")
        self.check_bad(2, read_tree, "a\n  b\n   c")

    def test_a_second_root(self):
        self.check_bad(1, read_tree, "a\nb")
        self.check_bad(2, read_tree, "a\n  b\nc")
        self.check_bad(1, read_tree, "a\na")

    def test_wrong_keys_and_blanks(self):
        for line in ("  A", "  b1", "  abcdefghi", "  b ", "  b  ", "  b c", "\tb", "  \tb", "  b\r", "  -", "  \u00e4",
                     " b", "  b\x0b", "  b\u2028", "\u00a0\u00a0b", "  b\x1c"):
            self.check_bad(1, read_tree, "a\n" + line)
            self.check_bad(1, read_tree, "a\n" + line + "\n  c")

    def test_only_line_feeds_separate_lines(self):
        for sign in "\r\x0b\x0c\x1c\x1d\x1e\x85\u2028\u2029":
            self.check_bad(0, read_tree, "a" + sign + "  b")
            self.check_bad(0, read_tree, "a" + sign + "\n  b")

    def test_the_61st_element(self):
        self.assertEqual(read_tree(show_tree(wide(60))), wide(60))
        self.check_bad(60, read_tree, show_tree(wide(61)))
        self.check_bad(60, read_tree, show_tree(wide(62)))
        self.check_bad(60, read_tree, show_tree(wide(60)) + "\n")
        self.check_bad(59, read_tree, show_tree(wide(59)) + "\n" + "x\n  y")

    def test_the_21st_level(self):
        self.assertEqual(read_tree(show_tree(chain(20))), chain(20))
        self.check_bad(20, read_tree, show_tree(chain(21)))
        self.check_bad(20, read_tree, show_tree(chain(30)))
        self.assertEqual(len(read_tree(show_tree(chain(20)) + "\n  x")[1]), 2)
        self.check_bad(21, read_tree, show_tree(chain(20)) + "\n" + "  " * 19 + "x" + "\n" + "  " * 20 + "y")

    def test_the_first_wrong_line(self):
        self.check_bad(1, read_tree, "a\nb\n a\n\n")
        self.check_bad(2, read_tree, "a\n  b\n  B\n  b")

    def test_a_text_of_20000_characters(self):
        self.check_bad(0, read_tree, "a" * 20000)
        self.check_bad(0, read_tree, "\n" * 20000)
        self.check_bad(1, read_tree, "a\n" + " " * 19997 + "b")
        self.check_bad(1, read_tree, "a\n" * 10000)

    def test_changed_texts(self):
        words = ["", "a", "x", "A", "abcdefghi"]
        lines = ["", " ", "a", "x", "  x", "    x", "      x", "        x", "  c", "-"]
        texts = changed_texts(TREE_TEXT, words, lines) + changed_texts("x\n  y\n  z", words, lines)
        self.check_changed(texts, read_tree, show_tree, first_wrong_tree_line)

    def test_every_text_of_a_few_lines(self):
        """The index as the document defines it: by the beginnings of all texts of trees."""
        keys, lines = ("a", "b", "c"), ["", "a", "b", "  a", "  b", "  c", " a", "    a", "    c", "      b", "  b "]
        trees = [tree for many in (1, 2, 3) for names in itertools.permutations(keys, many)
                 for tree in all_trees(names[0], names[1:])]
        beginnings = {tuple(model_tree_text(tree).split("\n")[:many]) for tree in trees for many in (1, 2, 3)}
        for many in (1, 2, 3):
            for chosen in itertools.product(lines, repeat=many):
                wrong = [index for index in range(many) if chosen[:index + 1] not in beginnings]
                if wrong:
                    self.check_bad(wrong[0], read_tree, "\n".join(chosen))
                else:
                    self.assertIn(read_tree("\n".join(chosen)), trees)


class ShowOperations(TextsTest):
    def test_the_text(self):
        self.assertEqual(show_operations(STEPS), STEPS_TEXT)
        self.assertEqual(show_operations(()), "")
        self.assertEqual(show_operations((("remove", "a"),)), "remove a")

    def test_each_operation(self):
        for step in all_operations(["a", "bc"]):
            self.assertEqual(show_operations((step,)), " ".join(step[:3] + (step[3] or "-",) if step[3:] else step))

    def test_more_than_400(self):
        text = show_operations((("remove", "a"),) * 401)
        self.assertEqual(text, "\n".join(["remove a"] * 401))
        self.check_bad(400, read_operations, text)


class ReadOperations(TextsTest):
    def test_the_operations(self):
        self.assertEqual(read_operations(STEPS_TEXT), STEPS)
        self.assertEqual(read_operations("remove abcdefgh"), (("remove", "abcdefgh"),))
        self.assertEqual(read_operations("move a a a"), (("move", "a", "a", "a"),))

    def test_the_empty_text(self):
        self.assertEqual(read_operations(""), ())
        self.check_bad(0, read_operations, "\n")
        self.check_bad(0, read_operations, " ")
        self.check_bad(0, read_operations, "-")

    def test_a_line_feed_at_the_end(self):
        self.check_bad(1, read_operations, "remove a\n")
        self.check_bad(5, read_operations, STEPS_TEXT + "\n")
        self.check_bad(0, read_operations, "\nremove a")
        self.check_bad(1, read_operations, "remove a\n\nremove a")

    def test_read_back(self):
        """Guarantee (h)."""
        numbers = random.Random(34)
        cases = [(), *[(step,) for step in all_operations(["a", "bc", "abcdefgh"])]]
        for _ in range(20):
            old, new = random_pair(numbers, 60)
            cases += [cheapest_patch(old, new, ()), random_patch(numbers, old, 20)]
        for steps in cases:
            self.assertIs(are_operations(steps), True)
            self.assertEqual(read_operations(show_operations(steps)), steps)

    def test_not_a_string(self):
        for value in [*any_values(), b"", b"remove a", STEPS, [], ("remove a",), ["remove a"]]:
            if not isinstance(value, str):
                self.check_bad(0, read_operations, value)

    def test_any_string(self):
        for value in any_values():
            if isinstance(value, str) and value != "":
                self.check_bad(0, read_operations, value)

    def test_400_and_401_lines(self):
        self.assertEqual(read_operations("\n".join(["move a b -"] * 399)), (("move", "a", "b", None),) * 399)
        self.assertEqual(read_operations("\n".join(["move a b -"] * 400)), (("move", "a", "b", None),) * 400)
        self.check_bad(400, read_operations, "\n".join(["move a b -"] * 401))
        self.check_bad(400, read_operations, "\n".join(["move a b -"] * 402))
        self.check_bad(400, read_operations, "\n".join(["move a b -"] * 400) + "\n")
        self.check_bad(399, read_operations, "\n".join(["move a b -"] * 399) + "\n" + "move a b\nx")

    def test_wrong_lines(self):
        wrong = ["create", "create a", "create a b", "create a b c d", "create a b c -", "create a b - -",
                 "create - b c", "create a - c", "create a b None", "create a b C", "create  a b c", "create a b  c",
                 " create a b c", "create a b c ", "Create a b c", "create a b abcdefghi", "create abcdefghi b c", "create\ta b c",
                 "remove", "remove -", "remove a b", "remove a -", "remove a b -", "remove a b c", "remove  a",
                 "remove a ", " remove a", "remove A", "remove a1", "remove abcdefghi", "delete a", "removea", "move a",
                 "move a b", "move a b c d", "move a b --", "move a b -c", "move - - -", "-", "- a b c", "a", "move a b \u2212",
                 "move a b c\r", "remove a\x0b", "remove\u00a0a", "create, a, b, c", "move a b ", "remove "]
        for line in wrong:
            self.check_bad(0, read_operations, line)
            self.check_bad(1, read_operations, "remove a\n" + line)
            self.check_bad(1, read_operations, "remove a\n" + line + "\n" + line)

    def test_changed_texts(self):
        words = ["", "-", "a", "A", "move", "remove", "create", "abcdefghi", "None"]
        lines = ["", " ", "-", "remove a", "remove -", "move a b", "move a b -", "create a b c d"]
        texts = changed_texts(STEPS_TEXT, words, lines) + changed_texts("remove a", words, lines)
        self.check_changed(texts, read_operations, show_operations, first_wrong_operations_line)

    def test_a_text_of_20000_characters(self):
        self.check_bad(0, read_operations, "a" * 20000)
        self.check_bad(0, read_operations, "\n" * 20000)
        self.check_bad(400, read_operations, "remove a\n" * 2222)


if __name__ == "__main__":
    unittest.main()
