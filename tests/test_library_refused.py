"""Texts that are no libraries, and the first line that is not as it must be there."""

import unittest

from heirsback.errors import BadLibrary
from heirsback.library import Library
from samples import FULL_LINES, OTHER_VALUES, PAIR, damages, inserted, replaced, text_of

WRONG_NAMES = ("", "pair", "PAir", "PAIR", "P1", "P_", "Pa-r", "Abcdefghi", "1air", "pAir", "P.", "+")
WRONG_FIELDS = (
    "", "X", "xY", "Xy", "x1", "1", "x_", "x-y", "abcdefghi", "by", "changes", "name", "of", "to", "world", "+", "x.",
)
WRONG_REQUESTS = ("", "Zero", "zeRo", "zero1", "abcdefghi", "neg", "pos", "abs", "invert", "+", "0", "ze_ro")
WRONG_MAKERS = {
    2: ["", "Named", "own", "call", "names", "renew", "copy", "bare", "call left", "call right", "renew common",
        "copy common", "bare other", "bare deeper", "bare common", "hook own", "named own", "call own own", "by", "by named",
        "named named", "call  own", "callown", "NAMED", "call Own", "hook hook", "none"],
    1: ["", "call other", "call deeper", "call common", "names other", "names deeper", "names common", "renew other",
        "renew deeper", "renew common", "copy other", "copy deeper", "copy common", "bare other", "call", "hook own", "own"],
    0: ["", "hook", "renew own", "copy own", "call other", "call deeper", "call common", "names other", "names common",
        "bare other", "bare", "call", "names deeper", "own", "named own"],
}


class Refusals(unittest.TestCase):
    def refuse(self, lines, at):
        text = text_of(lines)
        with self.subTest(text=text):
            with self.assertRaises(BadLibrary) as caught:
                Library.read(text)
            self.assertEqual(caught.exception.at, at)
            self.assertIs(caught.exception.at.__class__, int)


class NoTexts(Refusals):
    def test_no_strings(self):
        for thing in (*OTHER_VALUES, [PAIR], (PAIR,), PAIR.split("\n")):
            if not isinstance(thing, str):
                with self.subTest(thing=thing):
                    with self.assertRaises(BadLibrary) as caught:
                        Library.read(thing)
                    self.assertEqual(caught.exception.at, -1)

    def test_the_empty_text_has_one_line(self):
        self.refuse([""], 0)
        self.refuse(["", ""], 0)
        self.refuse([" "], 0)

    def test_a_text_that_ends_before_the_first_operation(self):
        for many in range(1, 8):
            self.refuse(FULL_LINES[:many], many)
        self.refuse(["library Pair"], 1)
        self.refuse(["library Pair", "needs x"], 2)
        self.refuse(["library Pair", "needs x", "keeps k of x"], 3)
        self.refuse(["library Pair", "needs x", "hook call"], 3)

    def test_a_line_feed_at_the_end(self):
        for many in range(1, len(FULL_LINES) + 1):
            self.refuse([*FULL_LINES[:many], ""], many)
        self.refuse([*PAIR.split("\n"), ""], 9)
        self.refuse([*PAIR.split("\n"), "", ""], 9)

    def test_a_line_feed_in_front(self):
        self.refuse(["", *FULL_LINES], 0)


class WrongLines(Refusals):
    def test_each_line_with_each_damage(self):
        for at, line in enumerate(FULL_LINES):
            for damaged in damages(line):
                self.refuse(replaced(FULL_LINES, at, damaged), at)

    def test_the_first_of_two_wrong_lines(self):
        for first in range(len(FULL_LINES)):
            for second in range(first + 1, len(FULL_LINES)):
                lines = replaced(replaced(FULL_LINES, first, "no line"), second, "wrong")
                self.refuse(lines, first)

    def test_a_line_in_between(self):
        for at in range(len(FULL_LINES) + 1):
            for line in ("", "# comment", "heir A of B", "takes t 7"):
                self.refuse(inserted(FULL_LINES, at, line), at)

    def test_wrong_class_names(self):
        for name in WRONG_NAMES:
            self.refuse(replaced(FULL_LINES, 0, f"library {name}"), 0)

    def test_wrong_field_names(self):
        for field in WRONG_FIELDS:
            self.refuse(["library Pair", f"needs {field}", "pos by named"], 1)
            self.refuse(["library Pair", "needs x", f"needs {field}", "pos by named"], 2)
            self.refuse(["library Pair", "needs x", "needs y", f"needs {field}", "pos by named"], 3)
            self.refuse(["library Pair", "needs x", f"keeps {field} of x", "pos by named"], 2)
            self.refuse(["library Pair", "needs x", "keeps k of x", f"keeps {field} of x", "pos by named"], 3)

    def test_known_field_names(self):
        self.refuse(replaced(FULL_LINES, 2, "needs x"), 2)
        self.refuse(replaced(FULL_LINES, 3, "needs x"), 3)
        self.refuse(replaced(FULL_LINES, 3, "needs abcdefgh"), 3)
        self.refuse(replaced(FULL_LINES, 4, "keeps x of z"), 4)
        self.refuse(replaced(FULL_LINES, 4, "keeps z of z"), 4)
        self.refuse(replaced(FULL_LINES, 5, "keeps size of x"), 5)
        self.refuse(replaced(FULL_LINES, 5, "keeps abcdefgh of x"), 5)

    def test_sources_of_kept_fields(self):
        for source in ("w", "wide", "size", "Abcdefgh", "X", ""):
            self.refuse(replaced(FULL_LINES, 4, f"keeps size of {source}"), 4)
        for source in ("w", "wide", "neg"):
            self.refuse(replaced(FULL_LINES, 5, f"keeps wide of {source}"), 5)
        self.refuse(replaced(FULL_LINES, 4, "keeps size to z"), 4)
        self.refuse(replaced(FULL_LINES, 4, "keeps size by z"), 4)

    def test_wrong_hooks(self):
        for word in ("", "own", "hook", "Call", "call own", "by", "none", "bare own", "callx"):
            self.refuse(replaced(FULL_LINES, 6, f"hook {word}"), 6)


class WrongOrder(Refusals):
    def test_two_neighbours_exchanged(self):
        # Lines that are right where they come too early make the line wrong that comes too late.
        for at, wrong in ((0, 0), (3, 3), (5, 6), (6, 7)):
            lines = replaced(replaced(FULL_LINES, at, FULL_LINES[at + 1]), at + 1, FULL_LINES[at])
            self.refuse(lines, wrong)

    def test_needs_behind_keeps(self):
        self.refuse(["library Pair", "needs x", "keeps k of x", "needs y", "pos by named"], 3)

    def test_needs_behind_hook(self):
        self.refuse(["library Pair", "needs x", "hook call", "needs y", "pos by named"], 3)

    def test_keeps_behind_hook(self):
        self.refuse(["library Pair", "needs x", "hook call", "keeps k of x", "pos by named"], 3)

    def test_anything_behind_an_operation(self):
        for line in ("needs y", "keeps k of x", "hook call", "library Pair"):
            self.refuse(["library Pair", "needs x", "pos by named", line], 3)
            self.refuse(["library Pair", "needs x", "pos by named", line, "neg by named"], 3)

    def test_no_parameter(self):
        for line in ("keeps k of x", "hook call", "pos by named", "make zero by named", ""):
            self.refuse(["library Pair", line, "needs x", "pos by named"], 1)

    def test_one_line_too_many_of_a_kind(self):
        self.refuse(inserted(FULL_LINES, 0, "library Other"), 1)
        self.refuse(inserted(FULL_LINES, 1, "library Other"), 1)
        self.refuse(inserted(FULL_LINES, 4, "needs w"), 4)
        self.refuse(inserted(FULL_LINES, 6, "keeps deep of x"), 6)
        self.refuse(inserted(FULL_LINES, 7, "hook call"), 7)
        self.refuse([*FULL_LINES, "make two by named"], 13)
        self.refuse([*FULL_LINES, "- by named"], 13)
        self.refuse([*FULL_LINES, "- by nothing"], 13)

    def test_hook_twice(self):
        self.refuse(["library Pair", "needs x", "hook call", "hook call", "pos by hook"], 3)


class WrongOperations(Refusals):
    def operation(self, line):
        """The line as the first, a middle and the last operation of a library with hook and x, y, z."""
        head = ["library Pair", "needs x", "needs y", "needs z", "keeps k of x", "hook call"]
        self.refuse([*head, line], 6)
        self.refuse([*head, line, "make a by named"], 6)
        self.refuse([*head, "make a by named", line, "make b by named"], 7)
        self.refuse([*head, "make a by named", "^ by hook", line], 8)

    def test_makers(self):
        for start, arity in (("+", 2), ("neg", 1), ("make zero", 0), ("<< changes x y", 2), ("invert changes z", 1)):
            for maker in WRONG_MAKERS[arity]:
                self.operation(f"{start} by {maker}")

    def test_changed_parameters(self):
        wrong = (
            "y x", "z x", "z y", "x z y", "x x", "x y x", "x y y", "k", "x k", "w", "X", "x,y", "", " x", "x ", "changes x",
            "x changes y", "x y z x",
        )
        for words in wrong:
            self.operation(f"+ changes {words} by named")
            self.operation(f"abs changes {words} by call own")

    def test_changes_with_nothing_behind_it(self):
        self.operation("+ changes by call own")
        self.operation("neg changes by named")
        self.operation("neg changes")

    def test_a_request_has_no_changes(self):
        self.operation("make zero changes x by named")
        self.operation("make zero changes by named")
        self.operation("make zero changes x y z by named")

    def test_signs(self):
        for sign in ("", "/", "**", "@", "<", ">", "==", "~", "add", "Neg", "zero", "plus", "++", "- -", "negative", "not"):
            self.operation(f"{sign} by named")
            self.operation(f"{sign} changes x by named")

    def test_requests(self):
        for word in WRONG_REQUESTS:
            self.operation(f"make {word} by named")

    def test_words_missing_or_too_many(self):
        lines = (
            "+", "+ by", "+ named", "by named", "+ x by named", "+ change x by named", "+ changes x named",
            "+ changes x by", "+ by by named", "+ changes x by by named", "+ changes x by named by named", "make",
            "make zero", "make zero named", "make by named", "make zero by", "make zero of named", "make zero one by named",
            "zero by named", "make + by named", "do zero by named", "make zero by by named", "+ BY named",
        )
        for line in lines:
            self.operation(line)

    def test_a_sign_twice(self):
        head = ["library Pair", "needs x"]
        for first, second in (("+ by named", "+ by named"), ("+ by named", "+ changes x by call own"),
                              ("neg by named", "neg by copy own"), ("make a by named", "make a by bare own")):
            self.refuse([*head, first, second], 3)
            self.refuse([*head, first, "abs by named", second], 4)
            self.refuse([*head, "abs by named", first, "<< by named", second, "make z by named"], 5)

    def test_hook_without_a_hook_line(self):
        head = ["library Pair", "needs x", "needs y", "keeps k of x"]
        for line in ("+ by hook", "neg by hook", "neg changes x by hook", "* changes x y by hook"):
            self.refuse([*head, line], 4)
            self.refuse([*head, "pos by named", line], 5)
            self.refuse([*head, "pos by named", line, "make a by named"], 5)
            self.refuse([*head, line, "hook call"], 4)


if __name__ == "__main__":
    unittest.main()
