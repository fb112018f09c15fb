"""Facts 29 to 32, against drawn libraries and worlds."""

import itertools
import random
import unittest

from drawn import LICENCES, drawn_library, drawn_world, one_step, tries, values_of
from heirsback.atlas import atlas, serves
from heirsback.errors import Lacking, Surplus, Unknown
from heirsback.families import Family
from heirsback.library import Library
from heirsback.values import by_names, by_position
from heirsback.virtues import VIRTUES


def below(world):
    """Each class with each place to which it belongs, and what fact 29 counts."""
    for place, name in itertools.product(world.names(), repeat=2):
        if world.belongs(name, place):
            row = [field for field, _ in world.parameters(place)]
            own = world.parameters(name)
            gone = [field for field in row if field not in [one for one, _ in own]]
            more = [(field, default) for field, default in own if field not in row]
            needs = len([field for field, default in more if default is None])
            yield place, name, row, gone, needs, len(more) - needs, more


class Calls(unittest.TestCase):
    """Fact 29."""

    def setUp(self):
        rnd = random.Random(29)
        self.worlds = [drawn_world(rnd, drawn_library(rnd), 8) for _ in range(150)]

    def test_by_position(self):
        seen = set()
        for world in self.worlds:
            for _, name, row, gone, needs, takes, more in below(world):
                numbers = {1000 + at: field for at, field in enumerate(row)}
                try:
                    made = by_position(world, name, *numbers).numbers()
                except Surplus:
                    self.assertLess(needs + takes, len(gone))
                    seen.add("surplus")
                except Lacking:
                    self.assertGreater(needs, len(gone))
                    seen.add("lacking")
                else:
                    self.assertTrue(needs <= len(gone) <= needs + takes)
                    if gone:
                        self.assertNotEqual(numbers[made[more[0][0]]], more[0][0])
                        seen.add("placed")
                    else:
                        self.assertEqual([made[field] for field in row], list(numbers))
                        seen.add("made")
        self.assertEqual(seen, {"surplus", "lacking", "placed", "made"})

    def test_by_names(self):
        seen = set()
        for world in self.worlds:
            for _, name, row, gone, needs, _, _ in below(world):
                numbers = {field: 1000 + at for at, field in enumerate(row)}
                try:
                    made = by_names(world, name, **numbers).numbers()
                except Unknown as error:
                    self.assertEqual(error.field, gone[0])
                    seen.add("unknown")
                except Lacking:
                    self.assertFalse(gone)
                    self.assertGreater(needs, 0)
                    seen.add("lacking")
                else:
                    self.assertEqual((gone, needs), ([], 0))
                    self.assertEqual({field: made[field] for field in row}, numbers)
                    seen.add("made")
        self.assertEqual(seen, {"unknown", "lacking", "made"})


class OddValues(unittest.TestCase):
    """Fact 30."""

    def test_what_makes_them_and_on_what_they_depend(self):
        rnd = random.Random(30)
        many = 0
        for _ in range(80):
            world = drawn_world(rnd, drawn_library(rnd), 3)
            states = {}
            for sign, operands, _ in tries(world, values_of(world)):
                made = one_step(world, sign, operands, 10 ** 6).value
                if made is None or made:
                    continue
                many += 1
                own = operands if isinstance(operands, str) else operands[0].name
                way, _, target = world.library.maker_of(sign).partition(" ")
                if way == "hook":
                    way, target = world.hook_of(own)[1], "own"
                self.assertIn(way, ("copy", "bare"))
                if isinstance(operands, str):
                    self.assertEqual(made.name, own)
                    key = (sign, own)
                else:
                    is_right = target == "other" or (
                        target == "deeper" and own != operands[-1].name and world.belongs(operands[-1].name, own)
                    )
                    source = operands[-1] if is_right else operands[0]
                    self.assertEqual(made.name, source.name)
                    key = (sign, source.state)
                self.assertEqual(states.setdefault(key, made.state), made.state)
        self.assertGreater(many, 1000)


class Shapes(unittest.TestCase):
    """Fact 31: the least entries need no other shapes, as the drawn and small worlds of the other tests show."""

    def check(self, world):
        heirs = []
        for line in str(world).split("\n") if str(world) else []:
            words = line.split()
            if words[0] == "heir":
                self.assertEqual(words[3], heirs[-1][0] if heirs else world.library.name)
                heirs.append((words[1], []))
            else:
                heirs[-1][1].append(words)
        bodies = [[words for words in body if words[0] != "hook"] for _, body in heirs]
        hooks = [[words[1] for words in body if words[0] == "hook"] for _, body in heirs]
        if len(heirs) == 3 or (len(heirs) == 2 and bodies[1]):
            self.assertIn(hooks[0], (["call"], ["names"]))
            self.assertLessEqual(len(bodies[0]), 1)
            self.assertIn(len(bodies[1]), (1, 2))
            self.assertEqual((hooks[1:], bodies[2:]), ([[]] * (len(heirs) - 1), [[]] * (len(heirs) - 2)))
        elif heirs:
            self.assertLessEqual(len(heirs), 2)
            self.assertLessEqual(len(hooks[0]), 1)
            self.assertEqual((hooks[1:], bodies[1:]), ([[]] * (len(heirs) - 1), [[]] * (len(heirs) - 1)))
        for body in bodies:
            kinds = [words[0] for words in body]
            self.assertLessEqual(len([kind for kind in kinds if kind in ("fixes", "ties")]), 1)
            self.assertLessEqual(len([kind for kind in kinds if kind in ("needs", "takes", "keeps")]), 1)

    def test_entries(self):
        rnd = random.Random(31)
        for _ in range(40):
            library = drawn_library(rnd)
            for sign in library:
                for family in (Family(LICENCES), Family(rnd.sample(LICENCES, 5))):
                    for entry in atlas(library, sign, family):
                        self.check(entry.world)


class SingleOnesAndPairs(unittest.TestCase):
    """Fact 32."""

    def smaller(self, library, signs):
        rows = [row for row in str(library).split("\n") if row.split()[0] in ("library", "needs", "keeps", "hook")]
        for row in str(library).split("\n"):
            words = row.split()
            if words[0] in signs or (words[0] == "make" and words[1] in signs):
                rows.append(row)
        return Library.read("\n".join(rows))

    def test_they_decide(self):
        rnd = random.Random(32)
        seen = set()
        for _ in range(60):
            library = drawn_library(rnd, 3)
            family = Family(rnd.sample(LICENCES, rnd.randint(0, 10)))
            for virtues in [[virtue] for virtue in VIRTUES] + [rnd.sample(VIRTUES, 2)]:
                single = all(serves(self.smaller(library, [sign]), family, virtues) for sign in library)
                pairs = [self.smaller(library, two) for two in itertools.combinations(library.signs(), 2)]
                both = single and all(serves(two, family, virtues) for two in pairs)
                self.assertEqual(bool(serves(library, family, virtues)), both)
                seen.add((single, both))
        self.assertEqual(seen, {(True, True), (True, False), (False, False)})


if __name__ == "__main__":
    unittest.main()
