"""Breakers and greatest families (point 26), against what is served of all families."""

import itertools
import random
import unittest

from drawn import LICENCES, drawn_library
from heirsback.atlas import serves
from heirsback.errors import BadVirtue
from heirsback.families import Family
from heirsback.greatest import breakers, greatest
from heirsback.virtues import VIRTUES
from samples import OTHER_VALUES, pair
from step_samples import library_of

ALL = [frozenset(words) for many in range(11) for words in itertools.combinations(LICENCES, many)]


def indexes(words):
    return tuple(at for at, licence in enumerate(LICENCES) if licence in words)


class AgainstEveryFamily(unittest.TestCase):
    def check(self, library, virtues):
        """Each of the 1024 families is asked."""
        served = {words: bool(serves(library, Family(list(words)), virtues)) for words in ALL}
        breaking = [
            words for words in ALL if not served[words] and all(served[words - {word}] for word in words)
        ]
        largest = [
            words for words in ALL if served[words] and not any(served[words | {word}] for word in LICENCES if word not in words)
        ]
        for found, wanted in ((breakers(library, virtues), breaking), (greatest(library, virtues), largest)):
            self.assertIsInstance(found, list)
            for family in found:
                self.assertIsInstance(family, Family)
            self.assertEqual([indexes(family.words) for family in found], sorted(indexes(words) for words in wanted))
        return breaking, largest

    def test_the_example(self):
        for virtues in (["carried", "placed"], ["runs"], ["alike"], ["fresh"], list(VIRTUES)):
            self.check(pair(), virtues)

    def test_hooks_beside_operations_that_make_odd_values(self):
        library = library_of("+ changes x by hook", "neg by bare own", "pos changes y by copy own", hook="renew")
        self.assertEqual(self.check(library, ["whole"])[0], [{"needs"}, {"takes"}, {"keeps"}])
        for virtues in (["placed"], ["runs"], ["carried"], ["whole", "placed"]):
            self.check(library, virtues)

    def test_drawn_libraries(self):
        rnd = random.Random(26)
        for _ in range(10):
            self.check(drawn_library(rnd), rnd.sample(VIRTUES, rnd.choice((1, 1, 2, 3))))


class ByHand(unittest.TestCase):
    def test_the_example(self):
        self.assertEqual(breakers(pair(), ["runs"]), [Family.of("needs"), Family.of("fixes"), Family.of("ties")])
        self.assertEqual(greatest(pair(), ["runs"]), [Family.of("takes", "keeps", "named", "call", "names", "renew", "copy")])
        self.assertEqual(
            greatest(pair(), ["carried"]),
            [Family(LICENCES) - Family.of("takes", "fixes", "ties"), Family(LICENCES) - Family.of("needs", "takes")],
        )

    def test_the_empty_family_is_not_served(self):
        library = library_of("neg by named")
        self.assertEqual((breakers(library, ["alike"]), greatest(library, ["alike"])), ([Family([])], []))
        stale = library_of("neg changes x by copy own")
        self.assertEqual((breakers(stale, ["fresh"]), greatest(stale, ["fresh"])), ([Family.of()], []))

    def test_all_are_served(self):
        library = library_of("neg by copy own", "+ by copy deeper")
        for virtues in ([], (), ["runs"], VIRTUES):
            self.assertEqual((breakers(library, virtues), greatest(library, virtues)), ([], [Family(LICENCES)]))

    def test_order(self):
        library = library_of("+ by call own")
        found = [family.words for family in breakers(library, ["runs", "carried"])]
        self.assertEqual(found, [("needs",), ("takes",), ("fixes",), ("ties",)])
        hooks = library_of("neg changes x by hook", hook="renew")
        found = [indexes(family.words) for family in breakers(hooks, ["placed", "carried"])]
        self.assertEqual(found, sorted(found))
        self.assertEqual(len(found), len(set(found)))

    def test_bad_virtues_come_first(self):
        for word in (*OTHER_VALUES, "Runs"):
            for asked in (breakers, greatest):
                with self.assertRaises(BadVirtue) as caught:
                    asked(pair(), ["runs", word, "nope"])
                self.assertEqual(caught.exception.word, word)

    def test_new_each_time(self):
        for asked in (breakers, greatest):
            asked(pair(), ["runs"]).clear()
            self.assertEqual(asked(pair(), ["runs"]), asked(library=pair(), virtues=("runs", "runs")))
            self.assertTrue(asked(virtues=["runs"], library=pair()))


if __name__ == "__main__":
    unittest.main()
