"""Point [28] and the second half of guarantee (h): desk.py."""

import random
import re
import unittest

from changed_texts import changed_texts
from helpers import any_values, chain, flat, key_at, wide
from keyedmoves.desk import Desk
from keyedmoves.errors import (BadCosts, BadLine, BadText, Conflict, DifferentRoots, Lost, NoElement, NotFocused,
                               NothingToUndo, Root)
from keyedmoves.texts import read_tree, show_tree
from keyedmoves.trees import children_of, keys_of, path_of
from keyedmoves.view import View
from randoms import random_pair, random_step, random_tree
from record import Record, outcome, state_of

TEXT = "list\n  a\n    d\n  b\n  c"
TREE = ("list", (("a", (("d", ()),)), ("b", ()), ("c", ())))
QUESTIONS = ("tree", "focused", "spent", "size", "children list", "children a", "path a")
# One line of each form.
LINES = ("update\nlist\n  b\n  a\n    d", "preview\nlist\n  x", "focus a", "blur b", "price a 9", "price abcdefgh 1000",
         "undo", "tree", "focused", "spent", "size", "children a", "path d")


def shown_state(desk):
    """Return all that a desk shows of itself when asked, and how much it can undo."""
    return [desk.say(question) for question in ("tree", "focused", "spent", "size")], state_of(desk.view)


def is_line(value):
    """Return whether any value has one of the forms of point [28]."""
    if not isinstance(value, str):
        return False
    key = "[a-z]{1,8}"
    forms = f"undo|tree|focused|spent|size|(focus|blur|children|path) {key}|price {key} [1-9][0-9]{{0,3}}"
    if re.fullmatch(forms, value) is not None:
        return True
    for beginning in ("update\n", "preview\n"):
        if value.startswith(beginning):
            return outcome(read_tree, value[len(beginning):])[0] == "returned"
    return False


class DeskTest(unittest.TestCase):
    def say_all(self, desk, *lines):
        return [desk.say(line) for line in lines]

    def check_refused(self, desk, error, line, *values):
        """Check that a line leads to this error, with this value if it has one, and changes nothing."""
        before = shown_state(desk)
        with self.assertRaises(error, msg=repr(line)) as caught:
            desk.say(line)
        self.assertIs(caught.exception.__class__, error)
        self.assertEqual(tuple(vars(caught.exception).values()), values)
        self.assertEqual(shown_state(desk), before)
        return caught.exception

    def check_bad_line(self, desk, line):
        self.assertIs(self.check_refused(desk, BadLine, line, line).line, line)


class Construction(DeskTest):
    def test_a_new_desk(self):
        self.assertEqual(self.say_all(Desk(TEXT), *QUESTIONS), [
            "list /   a /     d /   b /   c", "-", "0", "5", "a b c", "d", "list a"])
        self.assertEqual(self.say_all(Desk("a"), "tree", "focused", "spent", "size", "children a", "path a"), [
            "a", "-", "0", "1", "-", "a"])
        self.assertEqual(Desk(text=TEXT).say(line="size"), "5")

    def test_60_elements_and_20_nested(self):
        self.assertEqual(Desk(show_tree(wide(60))).say("size"), "60")
        self.assertEqual(Desk(show_tree(chain(20))).say("path " + key_at(19)), " ".join(keys_of(chain(20))))

    def test_bad_texts(self):
        for value in [*any_values(), "", "\n", "a\n", "a\nb", "a\n    b", "a\n  a", "a\n  B", TEXT + "\n", b"a",
                      ("a", ()), show_tree(wide(61)), show_tree(chain(21)), TREE, "update\na"]:
            expected = outcome(read_tree, value)
            self.assertEqual(expected[0], "BadText")
            self.assertEqual(outcome(Desk, value), expected)
        with self.assertRaises(BadText) as caught:
            Desk("a\n  b\n  b")
        self.assertEqual(caught.exception.line, 2)


class EachForm(DeskTest):
    def test_update(self):
        desk = Desk(TEXT)
        self.assertEqual(desk.say("update\nlist\n  c\n  a\n    x\n    d"), "create x a d, move c list a, remove b")
        self.assertEqual(self.say_all(desk, "tree", "spent", "size"), ["list /   c /   a /     x /     d", "1", "5"])
        self.assertEqual(desk.say("update\nlist\n  a\n    x\n    d"), "remove c")
        self.assertEqual(desk.say("update\nlist\n  a\n    x\n    d"), "-")
        self.assertEqual(desk.say("update\nlist"), "remove a")
        self.assertEqual(desk.say("tree"), "list")
        self.assertEqual(desk.say("update\nlist\n  a"), "create a list -")

    def test_preview(self):
        desk = Desk(TEXT)
        before = shown_state(desk)
        self.assertEqual(desk.say("preview\nlist\n  b\n  a\n    d"), "move b list a, remove c")
        self.assertEqual(desk.say("preview\n" + TEXT), "-")
        self.assertEqual(desk.say("preview\nlist"), "remove a, remove b, remove c")
        self.assertEqual(shown_state(desk), before)

    def test_focus_and_blur(self):
        desk = Desk(TEXT)
        self.assertEqual(self.say_all(desk, "focus c", "focus a", "focused"), ["done", "done", "a c"])
        self.assertEqual(self.say_all(desk, "focus a", "focused"), ["done", "a c"])
        self.assertEqual(self.say_all(desk, "blur c", "focused", "blur a", "focused"), ["done", "a", "done", "-"])

    def test_price(self):
        desk = Desk("list\n  a\n  b")
        turn = "preview\nlist\n  b\n  a"
        self.assertEqual(self.say_all(desk, "price b 1", turn), ["done", "move b list a"])
        self.assertEqual(self.say_all(desk, "price b 2", turn), ["done", "move a list -"])
        self.assertEqual(self.say_all(desk, "price a 1000", "price zz 12", turn), ["done", "done", "move b list a"])
        self.assertEqual(desk.view.costs(), (("a", 1000), ("b", 2), ("zz", 12)))
        self.assertEqual(self.say_all(desk, "update\nlist\n  b\n  a", "spent"), ["move b list a", "2"])

    def test_undo(self):
        desk = Desk(TEXT)
        lines = ["focus a", "update\nlist\n  b\n  a", "price b 7", "update\nlist\n  a\n  b", "focus a", "blur a"]
        states = []
        for line in lines:
            states.append(shown_state(desk))
            desk.say(line)
        self.assertEqual(self.say_all(desk, "spent", "focused"), ["8", "-"])
        for state in reversed(states):
            self.assertEqual(desk.say("undo"), "done")
            self.assertEqual(shown_state(desk), state)
        self.check_refused(desk, NothingToUndo, "undo")
        self.check_refused(desk, NothingToUndo, "undo")

    def test_children_and_path(self):
        desk = Desk(TEXT)
        self.assertEqual([desk.say("children " + key) for key in ("list", "a", "d", "b")], ["a b c", "d", "-", "-"])
        self.assertEqual([desk.say("path " + key) for key in ("list", "a", "d", "b")],
                         ["list", "list a", "list a d", "list b"])

    def test_questions_are_not_undone(self):
        desk = Desk(TEXT)
        self.say_all(desk, *QUESTIONS, "preview\nlist")
        self.check_refused(desk, NothingToUndo, "undo")

    def test_keys_that_are_words_of_the_desk(self):
        desk = Desk("tree\n  undo\n    size\n  update\n  price")
        self.assertEqual(self.say_all(desk, "focus undo", "focus update", "price price 5", "path size", "focused"), [
            "done", "done", "done", "tree undo size", "undo update"])
        self.assertEqual(desk.say("update\ntree\n  undo\n  update\n    price"), "move price update -, remove size")


class Errors(DeskTest):
    def test_of_focus_and_blur(self):
        desk = Desk(TEXT)
        desk.say("focus a")
        self.check_refused(desk, NoElement, "focus x", "x")
        self.check_refused(desk, Root, "focus list", "list")
        for key in ("b", "list", "x"):
            self.check_refused(desk, NotFocused, "blur " + key, key)

    def test_of_children_and_path(self):
        desk = Desk(TEXT)
        for word in ("children", "path"):
            self.check_refused(desk, NoElement, word + " x", "x")
            self.check_refused(desk, NoElement, word + " abcdefgh", "abcdefgh")

    def test_of_price(self):
        desk = Desk(TEXT)
        for number in (1001, 1002, 2000, 9999):
            error = self.check_refused(desk, BadCosts, f"price a {number}", ("a", number))
            self.assertIs(error.value[1].__class__, int)
        for number in (1, 9, 10, 99, 100, 999, 1000):
            self.assertEqual(desk.say(f"price x {number}"), "done")
            self.assertEqual(desk.view.costs(), (("x", number),))

    def test_of_update_and_preview(self):
        desk = Desk(TEXT)
        self.say_all(desk, "focus a", "focus b")
        for word in ("update\n", "preview\n"):
            self.check_refused(desk, DifferentRoots, word + "other\n  b")
            self.check_refused(desk, Lost, word + "list\n  b", ("a",))
            self.check_refused(desk, Lost, word + "list", ("a", "b"))
            self.check_refused(desk, Conflict, word + "list\n  b\n  a", ("a", "b"))
            self.check_refused(desk, Conflict, word + "list\n  a\n    b", ("b",))

    def test_bad_lines_go_ahead(self):
        desk = Desk("list")
        for line in ("undo ", "focus X", "blur 1", "children A", "path ", "price a 00", "update\nother\n  a\n  a"):
            self.check_bad_line(desk, line)


class BadLines(DeskTest):
    def test_not_a_string(self):
        desk = Desk(TEXT)
        for value in [*any_values(), b"undo", b"tree", ["tree"], ("tree",), ("focus", "a"), ["focus a"], TREE,
                      {"tree": 1}]:
            self.check_bad_line(desk, value)

    def test_wrong_words(self):
        desk = Desk(TEXT)
        desk.say("focus a")
        for line in ("", " ", "\n", "-", "Tree", "TREE", "trees", "focuss a", "focus", "blur", "price", "children",
                     "path", "update", "preview", "undo a", "tree a", "focused a", "spent 1", "size list", "focus a b",
                     "blur a a", "children a b", "path a b", "price a", "price 9", "price 9 a", "price a 9 9", "price a b",
                     "costs", "changes", "copy", "len", "run", "parent a", "done", "quit", "help", "focus a, b", "a", "view",
                     "update list", "update a", "preview list", "price a -", "focus -", "focus \u00e4",
                     "focus a\u0301"):
            self.check_bad_line(desk, line)

    def test_keys(self):
        desk = Desk(TEXT)
        for word in ("focus", "blur", "children", "path"):
            for key in ("", "A", "7", "a1", "abcdefghi", "a-", "\u00e4", "a\n", "\ta"):
                self.check_bad_line(desk, word + " " + key)
        for key in ("", "A", "7", "abcdefghi", "-"):
            self.check_bad_line(desk, f"price {key} 5")

    def test_numbers(self):
        desk = Desk(TEXT)
        for number in ("0", "00", "01", "007", "0001", "00001", "10000", "12345", "99999", "1" * 5000, "+1", "-1",
                       "1.0", "1_0", "1e2", "0x1", "a", "", "1a", "\u00b2", "\u0661", "1\u0662", "\uff11", "1,0", "1\n",
                       "\n1", "1\t", "True"):
            self.check_bad_line(desk, "price a " + number)
        for sign in map(chr, range(0x3000)):
            if sign not in "0123456789":
                for number in (sign, "1" + sign, sign + "1"):
                    self.assertEqual(outcome(desk.say, "price a " + number)[0], "BadLine", repr(number))

    def test_blanks(self):
        desk = Desk(TEXT)
        desk.say("focus b")
        for line in LINES:
            self.assertTrue(is_line(line))
            for wrong in (" " + line, line + " ", line + "\n", "\n" + line, "\t" + line, line + "\t", line + "\r",
                          line.replace(" ", "  "), line.replace(" ", "\t"), line.replace("\n", "\n\n"),
                          line.replace("\n", " "), line.replace("\n", " \n"), line.replace("\n", "\r\n"),
                          line.replace(" ", "")):
                if wrong != line:
                    self.check_bad_line(desk, wrong)

    def test_texts_of_no_tree(self):
        desk = Desk(TEXT)
        for text in ("", "\n", " list", "list\n", "list\nb", "list\n    b", "list\n  b\n  b", "list\n  B", "list ",
                     "list\n b", "list\n  list", "list /   a", "-", "\nlist", "list\n  abcdefghi",
                     show_tree(wide(61)), show_tree(chain(21)), show_tree(wide(60)) + "\n"):
            for word in ("update", "preview"):
                self.check_bad_line(desk, word + "\n" + text)
        for word in ("tree", "undo", "focus a", "Update", "update ", "previews", "size", "price a 5", ""):
            self.check_bad_line(desk, word + "\nlist")

    def test_a_line_of_20000_characters(self):
        desk = Desk(TEXT)
        for line in ("focus " + "a" * 19994, "update\n" + "\n" * 19993, " " * 20000, "tree" * 5000,
                     "price a " + "1" * 19992):
            self.check_bad_line(desk, line)

    def test_changed_lines(self):
        words = ["", "a", "A", "9", "0", "10000", "undo", "focus", "price", "update", "-"]
        lines = ["", "list", "  x", "update", "undo"]
        refused = 0
        for line in LINES:
            for changed in changed_texts(line, words, lines):
                desk = Desk(TEXT)
                desk.say("focus b")
                if is_line(changed):
                    self.assertNotEqual(outcome(desk.say, changed)[0], "BadLine", repr(changed))
                else:
                    refused += 1
                    self.check_bad_line(desk, changed)
        self.assertGreater(refused, 2000)


def shown(word, value):
    """Return what a desk must say when its view returns this."""
    if word in ("update", "preview"):
        steps = [" ".join("-" if part is None else part for part in step) for step in value]
        return ", ".join(steps) or "-"
    return "done"


class BesideARecord(DeskTest):
    """The desk answers as the view: many lines, some of them refused."""

    def draw(self, numbers, tree):
        """Return the name of a method, its arguments, and the line that means the same."""
        key = numbers.choice([*keys_of(tree), "zz"])
        word = numbers.choice("focus blur price undo update update update preview".split())
        if word == "undo":
            return word, (), "undo"
        if word == "price":
            cost = numbers.choice((1, 2, 10, 999, 1000, 1001, 9999))
            return word, (key, cost), f"price {key} {cost}"
        if word in ("focus", "blur"):
            return word, (key,), f"{word} {key}"
        other = self.draw_tree(numbers, tree)
        return word, (other,), word + "\n" + show_tree(other)

    def draw_tree(self, numbers, tree):
        if numbers.random() < 0.1:
            return "other", tree[1]
        if numbers.random() < 0.2:
            return random_tree(numbers, [tree[0], *numbers.sample(keys_of(tree)[1:], len(keys_of(tree)) - 1)], 20)
        for _ in range(numbers.randrange(3)):
            tree = random_step(numbers, tree, 20)
        return tree

    def check_questions(self, desk, record, numbers):
        tree, costs, focused, spent, changes, size = record.state()
        key = numbers.choice(keys_of(tree))
        self.assertEqual(self.say_all(desk, "tree", "focused", "spent", "size", "children " + key, "path " + key), [
            show_tree(tree).replace("\n", " / "), " ".join(focused) or "-", str(spent), str(size),
            " ".join(children_of(tree, key)) or "-", " ".join(path_of(tree, key))])

    def test_many_lines(self):
        numbers, seen = random.Random(35), set()
        for size in (2, 5, 10, 40):
            for _ in range(6):
                old, _ = random_pair(numbers, size)
                desk, view, record = Desk(show_tree(old)), View(old), Record(old)
                for _ in range(60):
                    word, arguments, line = self.draw(numbers, view.tree())
                    by_view = outcome(getattr(view, word), *arguments)
                    self.assertEqual(by_view, record.expect(word, *arguments))
                    expected = ("returned", shown(word, by_view[1])) if by_view[0] == "returned" else by_view
                    self.assertEqual(outcome(desk.say, line), expected)
                    self.check_questions(desk, record, numbers)
                    for wrong in (line + " ", " " + line, line.upper()):
                        self.assertEqual(outcome(desk.say, wrong), ("BadLine", {"line": wrong}))
                    seen.add((word, by_view[0]))
        for each in (("focus", "NoElement"), ("focus", "Root"), ("blur", "NotFocused"), ("price", "BadCosts"),
                     ("update", "DifferentRoots"), ("update", "Lost"), ("update", "Conflict"),
                     ("undo", "NothingToUndo")):
            self.assertIn(each, seen)

    def test_desks_are_independent(self):
        one, other = Desk(TEXT), Desk(TEXT)
        self.say_all(one, "focus a", "price b 5", "update\nlist\n  b\n  a")
        self.assertEqual(shown_state(other), shown_state(Desk(TEXT)))


if __name__ == "__main__":
    unittest.main()
