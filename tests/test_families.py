"""Licences and families (points 22 to 24)."""

import itertools
import unittest

from heirsback.errors import BadFamily
from heirsback.families import Family
from heirsback.spelling import LICENCES
from samples import OTHER_VALUES, pair_world

WORDS = ("needs", "takes", "fixes", "ties", "keeps", "named", "call", "names", "renew", "copy")
SOME = [Family(words) for many in (0, 1, 2, 9, 10) for words in itertools.combinations(WORDS, many)]
WORLDS = {
    (): pair_world(),
    ("takes",): pair_world("heir A of Pair", "takes t 1"),
    ("needs", "call"): pair_world("heir A of Pair", "needs t", "heir B of A", "hook call", "heir C of B", "hook call"),
    ("fixes", "ties", "keeps"): pair_world("heir A of Pair", "keeps k of x", "ties x to y", "heir B of A", "fixes y 2"),
    ("named", "names", "renew", "copy"): pair_world(
        "heir A of Pair", "hook named", "heir B of A", "hook names", "heir C of B", "hook renew", "heir D of Pair", "hook copy",
    ),
}


class Words(unittest.TestCase):
    def test_licences(self):
        self.assertEqual(Family.LICENCES, WORDS)
        self.assertEqual(LICENCES, WORDS)
        self.assertEqual(Family.of().LICENCES, WORDS)

    def test_any_order_and_repeated(self):
        for words in (WORDS, WORDS[::-1], WORDS * 3, list(WORDS[5:] + WORDS[:5])):
            self.assertEqual(Family(words).words, WORDS)
        self.assertEqual(Family(["call", "needs", "call", "fixes"]).words, ("needs", "fixes", "call"))
        self.assertEqual(Family(("copy",)).words, ("copy",))
        self.assertEqual(Family([]).words, ())
        self.assertEqual(Family(()).words, ())

    def test_of(self):
        self.assertEqual(Family.of("call", "needs", "call"), Family(["needs", "call"]))
        self.assertEqual(Family.of(), Family([]))
        self.assertIsInstance(Family.of(*WORDS * 10), Family)

    def test_used_by(self):
        for words, world in WORLDS.items():
            self.assertEqual(Family.used_by(world), Family(words))
            self.assertEqual(Family.used_by(world=world).words, words)

    def test_iteration_length_and_truth(self):
        for family in SOME:
            self.assertEqual(tuple(family), family.words)
            self.assertEqual(len(family), len(family.words))
            self.assertIs(bool(family), family.words != ())
            self.assertIsInstance(family.words, tuple)

    def test_repr(self):
        self.assertEqual(repr(Family([])), "Family()")
        self.assertEqual(repr(Family(["call", "needs"])), "Family(needs, call)")
        self.assertEqual(repr(Family(WORDS)), "Family(needs, takes, fixes, ties, keeps, named, call, names, renew, copy)")
        self.assertEqual(repr(Family.of("ties")), "Family(ties)")

    def test_the_list_is_copied(self):
        words = ["call", "needs"]
        family = Family(words)
        words.append("copy")
        words[0] = "ties"
        self.assertEqual((family.words, words), (("needs", "call"), ["ties", "needs", "copy"]))
        given = ["copy", "copy"]
        Family(given)
        self.assertEqual(given, ["copy", "copy"])


class Refused(unittest.TestCase):
    def test_the_first_wrong_word(self):
        for word in (*OTHER_VALUES, "hook", "Needs", "needs ", "bare", "hook call", ("needs",), ["needs"], 5):
            for words in ([word], (word,), ["needs", word, "nope"], ["call", "call", word, None, word]):
                with self.assertRaises(BadFamily) as caught:
                    Family(words)
                self.assertEqual(caught.exception.word, word)
                with self.assertRaises(BadFamily) as caught:
                    Family.of(*words)
                self.assertEqual(caught.exception.word, word)

    def test_what_the_error_keeps_is_its_own(self):
        words = [["needs"]]
        with self.assertRaises(BadFamily) as caught:
            Family(words)
        words[0].append("call")
        self.assertEqual(caught.exception.word, ["needs"])


class Together(unittest.TestCase):
    def test_operators_against_sets(self):
        for one, other in itertools.product(SOME[:30], SOME[20:]):
            first, second = set(one.words), set(other.words)
            self.assertEqual(set((one & other).words), first & second)
            self.assertEqual(set((one | other).words), first | second)
            self.assertEqual(set((one - other).words), first - second)
            self.assertIs(one.is_within(other), first <= second)
            self.assertIs(other.is_within(one), second <= first)
            self.assertIs(one == other, first == second)
            self.assertIs(one != other, first != second)

    def test_order_and_operands(self):
        one, other = Family.of("copy", "needs"), Family.of("call", "needs", "ties")
        self.assertEqual((one | other).words, ("needs", "ties", "call", "copy"))
        self.assertEqual((other & one).words, ("needs",))
        self.assertEqual((other - one).words, ("ties", "call"))
        self.assertEqual((one.words, other.words), (("needs", "copy"), ("needs", "ties", "call")))
        self.assertIsInstance(one - other, Family)
        self.assertTrue(Family.of().is_within(Family.of()))
        self.assertTrue(one.is_within(other=one))

    def test_equal_to_nothing_else(self):
        family = Family.of("needs")
        for other in (*OTHER_VALUES, "needs", ("needs",), ["needs"], pair_world(), "Family(needs)"):
            self.assertFalse(family == other)
            self.assertFalse(other == family)
        self.assertEqual(family, Family(["needs", "needs"]))


class Membership(unittest.TestCase):
    def test_licences(self):
        for family in SOME:
            for word in WORDS:
                self.assertIs(word in family, word in family.words)

    def test_other_values(self):
        for family in (Family([]), Family(["needs"]), Family(WORDS)):
            for thing in (*OTHER_VALUES, "hook", "Needs", ("needs",), ["needs"], WORDS, Family(["needs"]), Family([])):
                self.assertNotIn(thing, family)

    def test_worlds(self):
        for words, world in WORLDS.items():
            for family in SOME:
                self.assertIs(world in family, set(words) <= set(family.words), (words, family))

    def test_heirs_without_members(self):
        self.assertIn(pair_world("heir A of Pair", "heir B of A"), Family([]))
        self.assertNotIn(pair_world("heir A of Pair", "takes t 1"), Family([]))
        # The hook of the library itself needs no licence.
        self.assertIn(pair_world(), Family([]))

    def test_by_names(self):
        self.assertEqual(Family(words=["needs"]), Family.of("needs"))


if __name__ == "__main__":
    unittest.main()
