"""Texts that are no worlds, and the first line that is not as it must be there."""

import unittest

from heirsback.errors import BadWorld
from heirsback.library import Library
from heirsback.world import World
from samples import FULL_LINES, OTHER_VALUES, damages, inserted, pair, replaced, text_of

# Of the library of FULL_LINES. Each kind of member in each of the heirs where it may stand.
LINES = (
    "heir Named of Abcdefgh",
    "needs nn",
    "ties z to x",
    "takes tag 7",
    "heir Loud of Named",
    "hook call",
    "fixes x 12",
    "keeps echo of nn",
    "heir Plain of Abcdefgh",
    "needs pp",
    "keeps deep of pp",
)
WRONG_NUMBERS = ("", "00", "01", "007", "1000", "9999", "-1", "+1", "1.0", "1_0", "x", "1x", "0x1", "-0", "one", "1,0")
WRONG_FIELDS = (
    "", "X", "aB", "a1", "1", "a_b", "abcdefghi", "by", "changes", "name", "of", "to", "world", "+", "a-b",
    # Known ones: of the library, of a class above, of another branch, of the class itself.
    "x", "abcdefgh", "z", "size", "wide", "mm", "oo", "uu",
)
WRONG_NAMES = ("", "a", "aA", "AA", "A1", "A_", "Abcdefghi", "1", "Abcdefgh", "Mm", "Oo", "Uu")


class Refusals(unittest.TestCase):
    def refuse(self, lines, at):
        library = Library.read(text_of(FULL_LINES))
        text = text_of(lines)
        with self.subTest(text=text):
            with self.assertRaises(BadWorld) as caught:
                World.read(library, text)
            self.assertEqual(caught.exception.at, at)
            self.assertIs(caught.exception.at.__class__, int)
            with self.assertRaises(BadWorld) as caught:
                World.of(library, *lines)
            self.assertEqual(caught.exception.at, at)

    def accept(self, lines):
        text = text_of(lines)
        self.assertEqual(str(World.read(Library.read(text_of(FULL_LINES)), text)), text)

    def member(self, line, *before):
        """The line as the first, a middle and the last member, behind some that stand in the class, too."""
        head = ["heir Mm of Abcdefgh", "needs mm", "heir Oo of Abcdefgh", "needs oo", "heir Uu of Mm", "needs uu", *before]
        self.accept(head)
        self.refuse([*head, line], len(head))
        self.refuse([*head, line, "keeps later of x"], len(head))
        self.refuse([*head, "keeps early of x", line, "heir Later of Uu"], len(head) + 1)


class NoTexts(Refusals):
    def test_no_strings(self):
        for thing in (*OTHER_VALUES, ["heir A of Pair"], ("heir A of Pair",)):
            if not isinstance(thing, str):
                with self.subTest(thing=thing):
                    with self.assertRaises(BadWorld) as caught:
                        World.read(pair(), thing)
                    self.assertEqual(caught.exception.at, -1)

    def test_only_the_empty_text_has_no_lines(self):
        self.refuse(["", ""], 0)
        self.refuse([" "], 0)
        self.refuse(["", *LINES], 0)

    def test_a_line_feed_at_the_end(self):
        for many in range(1, len(LINES) + 1):
            self.refuse([*LINES[:many], ""], many)
        self.refuse([*LINES, "", ""], len(LINES))


class WrongLines(Refusals):
    def test_the_right_lines(self):
        for many in range(1, len(LINES) + 1):
            self.accept(LINES[:many])

    def test_each_line_with_each_damage(self):
        for at, line in enumerate(LINES):
            for damaged in damages(line):
                self.refuse(replaced(LINES, at, damaged), at)

    def test_the_first_of_two_wrong_lines(self):
        for first in range(len(LINES)):
            for second in range(first + 1, len(LINES)):
                self.refuse(replaced(replaced(LINES, first, "no line"), second, "wrong"), first)

    def test_a_line_in_between(self):
        for at in range(len(LINES) + 1):
            for line in ("", "# comment", "library Other", "make two by named", "+ by named", "heir", "needs"):
                self.refuse(inserted(LINES, at, line), at)

    def test_a_member_before_the_first_heir(self):
        for line in ("needs n", "takes t 1", "fixes x 1", "ties x to z", "keeps k of x", "hook call"):
            self.refuse([line], 0)
            self.refuse([line, *LINES], 0)


class WrongHeirs(Refusals):
    def test_names(self):
        head = ["heir Mm of Abcdefgh", "heir Oo of Mm", "heir Uu of Abcdefgh"]
        for name in WRONG_NAMES:
            self.refuse([*head, f"heir {name} of Mm"], 3)
            self.refuse([*head, "takes t 1", f"heir {name} of Abcdefgh", "needs n"], 4)
        for name in ("", "Abcdefgh", "b", "Bbbbbbbbb"):
            self.refuse([f"heir {name} of Abcdefgh"], 0)

    def test_bases(self):
        for base in ("", "Aa", "Other", "abcdefgh", "x", "Loud", "Abcdefg"):
            self.refuse([f"heir Aa of {base}", "heir Loud of Abcdefgh"], 0)
            self.refuse(["heir Mm of Abcdefgh", f"heir Aa of {base}", "heir Loud of Mm"], 1)

    def test_words(self):
        for line in ("heir A", "heir A of", "heir of Abcdefgh", "heir A Abcdefgh", "heir A to Abcdefgh", "Heir A of Abcdefgh",
                     "heir A of Abcdefgh of Mm", "A of Abcdefgh", "heir A OF Abcdefgh", "heirs A of Abcdefgh"):
            self.refuse([line], 0)
            self.refuse(["heir Mm of Abcdefgh", line], 1)

    def test_the_ninth(self):
        for base in ("Abcdefgh", "H"):
            eight = [f"heir {name} of Abcdefgh" for name in "ABCDEFGH"]
            self.accept([*eight, "needs n"])
            self.refuse([*eight, f"heir I of {base}"], 8)
            self.refuse([*eight, "needs n", f"heir I of {base}", "needs m"], 9)


class WrongMembers(Refusals):
    def test_the_ninth(self):
        eight = [f"takes {field} 1" for field in "mnopqrst"]
        for line in ("takes u 1", "fixes x 1", "ties x to z", "keeps k of x", "hook call"):
            self.accept(["heir A of Abcdefgh", *eight])
            self.accept(["heir A of Abcdefgh", *eight[1:], line])
            self.refuse(["heir A of Abcdefgh", *eight, line], 9)
            self.refuse(["heir A of Abcdefgh", "heir B of A", *eight, line, "heir C of A"], 10)
            self.refuse(["heir A of Abcdefgh", "hook copy", *eight[:-1], line], 9)
        self.accept(["heir A of Abcdefgh", *eight, "heir B of A", "takes u 1"])

    def test_new_fields(self):
        for field in WRONG_FIELDS:
            self.member(f"needs {field}")
            self.member(f"takes {field} 1")
            self.member(f"keeps {field} of x")

    def test_fields_that_a_kept_field_took(self):
        for line in ("needs k", "takes k 1", "keeps k of x"):
            self.member(line, "keeps k of x")
            self.member(line, "keeps k of x", "heir Below of Mm")

    def test_takes_numbers(self):
        for number in WRONG_NUMBERS:
            self.member(f"takes t {number}")

    def test_fixes_numbers(self):
        for number in WRONG_NUMBERS:
            self.member(f"fixes x {number}")

    def test_needs_behind_a_default(self):
        self.member("needs n", "takes t 1")
        self.member("needs n", "takes t 0")
        self.member("needs n", "takes t 1", "heir Below of Uu")
        self.member("needs n", "takes t 1", "heir Below of Uu", "fixes x 1", "heir Lowest of Below")
        self.accept(["heir A of Abcdefgh", "takes t 1", "heir B of Abcdefgh", "needs n"])

    def test_fixes_what_is_no_parameter_of_the_root(self):
        for field in ("", "uu", "mm", "oo", "size", "wide", "t", "later", "X", "Mm"):
            self.member(f"fixes {field} 1", "takes t 1")

    def test_fixes_what_is_a_parameter_no_more(self):
        for before in (["fixes x 1"], ["ties x to z"], ["fixes x 1", "heir Below of Uu"], ["ties x to z", "heir Below of Uu"]):
            self.member("fixes x 1", *before)
            self.member("fixes x 2", *before)

    def test_ties_of_what_is_no_parameter_of_the_root(self):
        for field in ("", "uu", "mm", "oo", "size", "wide", "t", "Mm"):
            self.member(f"ties {field} to x", "takes t 1")
            self.member(f"ties x to {field}", "takes t 1")

    def test_ties_of_what_is_a_parameter_no_more(self):
        for before in (["fixes x 1"], ["ties x to z"], ["fixes x 1", "heir Below of Uu"], ["ties x to z", "heir Below of Uu"]):
            self.member("ties x to abcdefgh", *before)
            self.member("ties abcdefgh to x", *before)
            self.member("ties z to x", *before)

    def test_a_tie_to_itself(self):
        for field in ("x", "abcdefgh", "z"):
            self.member(f"ties {field} to {field}")

    def test_sources_of_kept_fields(self):
        for source in ("", "oo", "later", "k", "Mm", "X", "t"):
            self.member(f"keeps k of {source}")
        self.refuse(["heir A of Abcdefgh", "keeps k of t", "takes t 1"], 1)
        self.refuse(["heir A of Abcdefgh", "heir B of A", "takes t 1", "heir C of A", "keeps k of t"], 4)

    def test_hooks(self):
        for word in ("", "bare", "hook", "own", "Call", "call own", "fixes", "none", "by"):
            self.member(f"hook {word}")

    def test_a_second_hook_in_a_class(self):
        for word in ("named", "call", "names", "renew", "copy"):
            self.member(f"hook {word}", "hook call")
            self.member(f"hook {word}", "hook call", "takes t 1")
            self.accept(["heir A of Abcdefgh", "hook call", "heir B of A", f"hook {word}"])

    def test_words_missing_or_too_many(self):
        lines = (
            "needs", "needs n 1", "needs n m", "need n", "takes t", "takes 1", "takes 1 t", "takes t 1 2", "takes t to 1",
            "fixes x", "fixes 1", "fixes 1 x", "fixes x to 1", "fixes x 1 2", "fixed x 1", "ties", "ties x", "ties x to",
            "ties x z", "ties x of z", "ties x by z", "ties x to z to abcdefgh", "tie x to z", "ties to x z", "keeps", "keeps k",
            "keeps k of", "keeps k x", "keeps k to x", "keeps of k x", "keeps k of x z", "keep k of x", "hook", "hook call call",
            "hooks call", "call", "of", "x", "n 1",
        )
        for line in lines:
            self.member(line)


if __name__ == "__main__":
    unittest.main()
