"""The virtues and the choice of them (point 16)."""

import itertools
import unittest

from heirsback.errors import BadVirtue
from heirsback.virtues import VIRTUES, check_virtues
from samples import OTHER_VALUES

NO_VIRTUES = (*OTHER_VALUES, "run", "Runs", "runs ", " runs", "fresher", "missing", ["runs"], ("runs",), "runs alike", "needs")


class TheVirtues(unittest.TestCase):
    def test_in_their_order(self):
        self.assertEqual(VIRTUES, ("runs", "alike", "deep", "whole", "placed", "carried", "fresh"))
        self.assertIs(VIRTUES.__class__, tuple)


class Chosen(unittest.TestCase):
    def test_all_choices_in_every_kind_of_order(self):
        for many in range(8):
            for chosen in itertools.combinations(VIRTUES, many):
                for words in (list(chosen), chosen, list(reversed(chosen)), tuple(reversed(chosen)), [*chosen, *chosen]):
                    found = check_virtues(words)
                    self.assertEqual(found, chosen)
                    self.assertIs(found.__class__, tuple)

    def test_three_in_every_order(self):
        for words in itertools.permutations(("fresh", "runs", "deep")):
            self.assertEqual(check_virtues(words), ("runs", "deep", "fresh"))

    def test_repeated_words(self):
        self.assertEqual(check_virtues(["fresh", "runs", "fresh", "runs", "runs"]), ("runs", "fresh"))

    def test_none(self):
        self.assertEqual(check_virtues([]), ())
        self.assertEqual(check_virtues(()), ())

    def test_by_name(self):
        self.assertEqual(check_virtues(words=["deep"]), ("deep",))

    def test_the_argument_stays_as_it_was(self):
        words = ["whole", "alike", "whole"]
        check_virtues(words)
        self.assertEqual(words, ["whole", "alike", "whole"])


class NoVirtues(unittest.TestCase):
    def test_values_of_every_kind(self):
        for thing in NO_VIRTUES:
            for words in ([thing], (thing,), ["fresh", thing], [thing, "runs"], ["runs", thing, "nothing", []]):
                with self.subTest(words=words):
                    with self.assertRaises(BadVirtue) as caught:
                        check_virtues(words)
                    self.assertEqual(caught.exception.word, thing)
                    self.assertIs(caught.exception.word.__class__, thing.__class__)

    def test_the_first_is_told(self):
        with self.assertRaises(BadVirtue) as caught:
            check_virtues(("runs", "b", "a"))
        self.assertEqual(caught.exception.word, "b")

    def test_what_is_told_is_a_copy(self):
        inner = ["x"]
        with self.assertRaises(BadVirtue) as caught:
            check_virtues([inner])
        inner.append("y")
        self.assertEqual(caught.exception.word, ["x"])


if __name__ == "__main__":
    unittest.main()
