"""Texts that are no expressions (point 17): the first character with which none can go on."""

import unittest

from heirsback.errors import BadExpression, TooMany
from heirsback.expressions import Expression
from samples import OTHER_VALUES

LETTERS = "abcdefghijklmnopqrstuvwxyz"
CAPITALS = LETTERS.upper()
# Each kind of character, and some that look like one that is meant.
CHARACTERS = LETTERS + CAPITALS + "0129 ()+-*/&|^<>=!~.:,;_'\"\\{}[]@#$?\n\t\r\u00e9\u0391\u0660"
DEEP = 100


class Refused(unittest.TestCase):
    def refused(self, text, at):
        with self.subTest(text=text):
            with self.assertRaises(BadExpression) as caught:
                Expression.read(text)
            self.assertEqual(caught.exception.at, at)

    def next_is(self, begun, allowed):
        """Behind this beginning exactly these characters may stand; the text is no expression as it is."""
        self.refused(begun, len(begun))
        self.only(begun, allowed)

    def only(self, begun, allowed):
        """Behind this beginning exactly these characters may stand."""
        for letter in CHARACTERS:
            try:
                Expression.read(begun + letter)
                found = len(begun) + 1
            except BadExpression as told:
                found = told.at
            with self.subTest(begun=begun, letter=letter):
                self.assertEqual(found, len(begun) + (letter in allowed))


class WhatMayFollow(Refused):
    def test_the_start(self):
        starts = LETTERS + CAPITALS + "("
        for begun in ("", "(", "neg(", "((", "(pos(", "(a:A + ", "(a:A // ", "((a:A << b:A) - ", "neg((A.x + ", "abs(invert("):
            self.next_is(begun, starts)

    def test_words(self):
        for begun in ("", "(", "neg(", "(a:A + "):
            for word in ("a", "ne", "nega", "abcdefg", "absx", "inver", "inverta"):
                self.next_is(begun + word, LETTERS + ":")
            for word in ("neg", "pos", "abs", "invert"):
                self.next_is(begun + word, LETTERS + ":(")
            for word in ("abcdefgh", "invertab", "negnegne"):
                self.next_is(begun + word, ":")

    def test_labels(self):
        for begun in ("a:", "neg:", "abcdefgh:", "(a:", "neg(invert:", "(a:A * b:"):
            self.next_is(begun, CAPITALS)

    def test_names_of_leaves(self):
        for many in range(8):
            name = "A" + "b" * many
            more = LETTERS if many < 7 else ""
            self.only(f"a:{name}", more)
            self.next_is(f"(a:{name}", more + " ")
            self.next_is(f"neg(a:{name}", more + ")")
            self.next_is(f"(a:A + a:{name}", more + ")")

    def test_names_that_are_asked(self):
        for many in range(8):
            name = "A" + "b" * many
            for begun in ("", "(", "neg(", "(a:A + "):
                self.next_is(begun + name, LETTERS + "." if many < 7 else ".")

    def test_requests(self):
        for begun in ("A.", "Abcdefgh.", "(A.", "neg(A.", "(a:A + A."):
            self.next_is(begun, LETTERS)
        for word in ("a", "ne", "nega", "posi", "absa", "inver", "inverta", "abcdefg", "abcdefgh"):
            more = LETTERS if len(word) < 8 else ""
            self.only(f"A.{word}", more)
            self.next_is(f"(A.{word}", more + " ")
            self.next_is(f"neg(A.{word}", more + ")")
            self.next_is(f"(a:A + A.{word}", more + ")")

    def test_requests_that_read_as_unary_signs(self):
        for word in ("neg", "pos", "abs", "invert"):
            for begun in ("A.", "(A.", "neg(A.", "(a:A + A."):
                self.next_is(begun + word, LETTERS)

    def test_signs(self):
        for begun in ("(a:A ", "(A.x ", "((a:A + b:A) ", "(neg(a:A) ", "(a:A + (b:A "):
            self.next_is(begun, "+-*/&|^<>")
            for sign in ("+", "-", "*", "//", "&", "|", "^", "<<", ">>"):
                self.next_is(begun + sign, " ")
            for sign in "/<>":
                self.next_is(begun + sign, sign)

    def test_the_end(self):
        for text in ("neg(a:A)", "(a:A + b:A)", "((a:A + b:A) + c:A)", "neg(pos(A.x))", "abs((A.x // A.y))"):
            self.only(text, "")
        self.next_is("neg(neg(a:A)", ")")
        self.next_is("((a:A + b:A)", " ")
        self.next_is("(a:A + (b:A + c:A)", ")")
        self.next_is("(a:A + neg(b:A)", ")")
        self.next_is("(neg(a:A)", " ")


class Texts(Refused):
    def test_the_empty_text(self):
        self.refused("", 0)

    def test_what_ends_too_early(self):
        for text in ("neg(a:A)", "((abc:Def + A.negate) << invert(b:B))", "(Abc.de // (f:Gh & abs(i:J)))"):
            for end in range(len(text)):
                self.refused(text[:end], end)

    def test_spaces(self):
        text = "(neg(a:A) + B.x)"
        for at in (0, 1, 2, 4, 5, 6, 8, 13, 14, 15, 16):
            self.refused(text[:at] + " " + text[at:], at)
        self.refused("(neg(a:A)  + B.x)", 10)
        self.refused("(neg(a:A) +  B.x)", 12)
        self.refused("(neg(a:A)+ B.x)", 9)
        self.refused("(neg(a:A) +B.x)", 11)
        self.refused("neg (a:A)", 3)
        self.refused("a: A", 2)
        self.refused("a :A", 1)

    def test_other_mistakes(self):
        for text, at in (
            ("a", 1), ("A", 1), ("a:a", 2), ("A:a", 1), ("a.b", 1), ("A.B", 2), (":A", 0), (".a", 0), ("()", 1), ("(a:A)", 4),
            ("(a:A + b:B + c:C)", 10), ("a:A + b:A", 3), ("neg a:A", 3), ("-(a:A)", 0), ("nag(a:A)", 3), ("neg(a:A b:A)", 7),
            ("neg()", 4), ("+(a:A)", 0), ("(a:A / b:A)", 6), ("(a:A < b:A)", 6), ("(a:A <> b:A)", 6), ("(a:A ** b:A)", 6),
            ("(a:A neg b:A)", 5), ("(a:A + b:A))", 11), ("(a:A + b:A) ", 11), ("a:A\n", 3), ("\na:A", 0), ("(a:A\n+ b:A)", 4),
            ("A.neg", 5), ("A.neg)", 5), ("(A.neg + a:A)", 6), ("neg(A.abs)", 9), ("A.zero()", 6), ("A.b.c", 3), ("a:A.b", 3),
            ("a:A:b", 3), ("abcdefghi:A", 8), ("a:Abcdefghi", 10), ("Abcdefghi.a", 8), ("A.abcdefghi", 10), ("a1:A", 1),
            ("a:A1", 3), ("A.x1", 3), ("a_b:A", 1), ("\u00e4:A", 0), ("a:\u00c4", 2), ("1 * a:A", 0),
        ):
            self.refused(text, at)

    def test_one_character_too_few_or_too_many(self):
        text = "(abs(ab:Cd) // (Ef.gh - i:J))"
        self.assertEqual(str(Expression.read(text)), text)
        # Where the text goes on as another expression might, a later character shows that one is absent.
        fewer = {0: 10, 1: 3, 2: 3, 3: 3, 4: 9, 7: 7, 8: 8, 10: 10, 11: 11, 12: 13, 13: 13, 14: 14, 15: 20, 16: 17, 18: 20, 21: 21,
                 22: 22, 23: 23, 24: 24, 25: 25, 26: 26, 27: 28, 28: 28}
        for at, told in fewer.items():
            self.refused(text[:at] + text[at + 1:], told)
        words = (6, 9, 17, 20)
        for at in range(len(text)):
            for letter in "%\u00e9\t":
                self.refused(text[:at] + letter + text[at:], at)
                self.refused(text[:at] + letter + text[at + 1:], at)
            if at in words:
                Expression.read(text[:at] + "x" + text[at:])

    def test_no_strings(self):
        for thing in OTHER_VALUES:
            if not isinstance(thing, str):
                self.refused(thing, -1)
        for thing in (["a:A"], ("a:A",), ["a", ":", "A"], Expression.leaf("a", "A")):
            self.refused(thing, -1)

    def test_strings_of_every_kind(self):
        self.refused(" ", 0)
        self.refused("x y", 1)
        self.refused("x" * 3000, 8)


class Depth(Refused):
    def nested(self, opened, closed):
        """100 such parentheses, one within another, and a text with one more."""
        return opened * DEEP + "a:A" + closed * DEEP

    def test_up_to_100(self):
        for opened, closed in (("neg(", ")"), ("(", " + b:A)"), ("(b:A // ", ")"), ("invert(", ")")):
            self.assertEqual(len(Expression.read(self.nested(opened, closed))), DEEP)
        with self.assertRaises(TooMany):
            Expression.read(self.nested("(A.x - ", ")"))

    def test_beyond(self):
        self.refused("(" * 101, 100)
        self.refused("(" * 3000, 100)
        self.refused("neg(" * 101, 403)
        self.refused("(b:A + " * 101, 700)
        self.refused("(b:A + " * 100 + "neg(a:A)", 703)
        self.refused("neg(" * 100 + "(a:A + b:A)", 400)
        self.refused("(neg(" * 50 + "(a:A + b:A)", 250)
        self.refused("(neg(" * 50 + "abs(a:A)", 253)
        self.refused(self.nested("neg(", ")").replace("a:A", "invert(a:A)"), 406)

    def test_at_the_limit_words_and_requests_may_stand(self):
        self.refused("(" * 100, 100)
        self.refused("neg(" * 100 + "neg", 403)
        self.refused("(" * 100 + "nega(", 104)
        self.only("(" * 100 + "neg", LETTERS + ":")
        self.only("(" * 100, LETTERS + CAPITALS)
        self.assertEqual(len(Expression.read("neg(" * 100 + "neg:A" + ")" * 100)), 100)

    def test_parentheses_that_are_closed_do_not_count(self):
        text = "neg(" * 99 + "a:A" + ")" * 99
        for opened in ("neg(", "("):
            with self.assertRaises(TooMany):
                Expression.read("(" + text + " + (" + text[4:-1] + " - " + text[4:-1] + "))")
        self.assertRaises(TooMany, Expression.read, f"({text} + {text})")


class TooManySteps(Refused):
    def too_many(self, text):
        with self.subTest(text=text):
            with self.assertRaises(TooMany) as caught:
                Expression.read(text)
            self.assertEqual(caught.exception.what, "steps")

    def test_101(self):
        hundred = str(101 * Expression.leaf("a", "A"))
        self.assertEqual(len(Expression.read(hundred)), 100)
        half = str(51 * Expression.leaf("a", "A"))
        self.too_many(f"({half} * {half})")
        self.too_many(f"({half} + neg({half[1:].rsplit(' + ', 1)[0]}))")
        self.too_many("(" + half + " + " + str(26 * Expression.asked("A", "x")) + ")")
        third = str(34 * Expression.leaf("b", "B"))
        self.assertEqual(len(Expression.read(f"(({third} - {third}) - a:A)")), 68)
        self.too_many(f"(({third} - {third}) - {third})")

    def test_many_more(self):
        text = "a:A"
        for _ in range(10):
            text = f"({text} + {text})"
        self.too_many(text)

    def test_only_where_nothing_else_is_wrong(self):
        half = str(51 * Expression.leaf("a", "A"))
        text = f"({half} * {half})"
        self.too_many(text)
        self.refused(text[:-1], len(text) - 1)
        self.refused(text + ")", len(text))
        self.refused(text[:-2], len(text) - 2)
        self.refused(text.replace(") * (", ") *(", 1), text.index(") * (") + 3)


if __name__ == "__main__":
    unittest.main()
