"""Atlases (points 3 and 23 to 25), against all small worlds and against worlds that are drawn."""

import itertools
import random
import unittest

from drawn import HOOKS, LICENCES, drawn_library, drawn_world, lacks_of, operation, outcomes_of, small_worlds
from heirsback.atlas import Entry, Verdict, atlas, serves
from heirsback.errors import BadVirtue, NoSign
from heirsback.families import Family
from heirsback.library import Library
from heirsback.runs import run
from heirsback.virtues import VIRTUES
from samples import OTHER_VALUES, pair
from step_samples import library_of

ALL = Family(LICENCES)
NONE = Family([])
PAIRS = [Family(words) for words in itertools.combinations(LICENCES, 2)]
SINGLE = [Family([word]) for word in LICENCES]
MAKERS = [(2, "+", maker) for maker in Library.makers(2)] + [(1, "neg", maker) for maker in Library.makers(1)]
MAKERS += [(0, "zero", maker) for maker in Library.makers(0)]


def told(entries):
    return {entry.outcome: (entry.lines, entry.steps) for entry in entries}


def check_entries(case, library, sign, family):
    """Each entry is one of the sign and the family, shows its outcome, and stands in its place."""
    entries = atlas(library, sign, family)
    case.assertEqual([entry.outcome for entry in entries], sorted({entry.outcome for entry in entries}))
    for entry in entries:
        check_entry(case, library, family, entry)
        case.assertEqual(entry.sign, sign)
    return entries


def check_entry(case, library, family, entry):
    case.assertIsInstance(entry, Entry)
    case.assertEqual(entry.world.library, library)
    case.assertIn(entry.world, family)
    steps = list(run(entry.world, entry.expression).journal())
    case.assertTrue(all(steps[:-1]))
    case.assertEqual((steps[-1].sign, steps[-1].outcome), (entry.sign, entry.outcome))
    case.assertEqual((entry.lines, entry.steps), (entry.world.lines, len(entry.expression)))
    case.assertEqual(entry.steps, len(steps))


def best_of(rows, family):
    """The fewest lines, then the fewest steps, of each sign and outcome in the worlds of the family."""
    found = {}
    for words, lines, outcomes in rows:
        if words <= set(family.words):
            for key, steps in outcomes.items():
                found[key] = min(found.get(key, (lines, steps)), (lines, steps))
    return found


class AgainstAllSmallWorlds(unittest.TestCase):
    def check(self, library, most, families, words=LICENCES):
        rows = [(set(world.licences()), world.lines, outcomes_of(world)) for world in small_worlds(library, most, words)]
        for family in families:
            wanted = best_of(rows, family)
            found = {}
            for sign in library:
                for outcome, place in told(check_entries(self, library, sign, family)).items():
                    found[(sign, outcome)] = place
            small = {key: place for key, place in found.items() if place[0] <= most}
            self.assertEqual(small, wanted, (str(library), family))

    def test_each_way_target_and_arity(self):
        for arity, sign, maker in MAKERS:
            for changes in (["x"], ["x", "y"]) if arity == 2 else ([], ["y"]):
                library = library_of(operation(sign, arity, changes, maker), hook="call" if maker == "hook" else None)
                self.check(library, 2, [NONE, *SINGLE, *PAIRS, ALL])

    def test_some_beside_operations_that_make_odd_values(self):
        others = ("pos changes x by copy own", "abs by bare own")
        for arity, sign, maker in MAKERS:
            library = library_of(operation(sign, arity, ["y"], maker), *others, hook="renew")
            self.check(library, 2, [NONE, *SINGLE, *PAIRS[::4], ALL])

    def test_some_beside_hooks_and_copies_of_the_right_operand(self):
        families = [NONE, *SINGLE, Family.of("copy", "keeps"), Family.of("fixes", "takes"), Family.of("ties", "copy"), ALL]
        begin = "library Root\nneeds x\nneeds y\nhook renew\nneg changes x by hook\n"
        for sign in ("pos by copy own", "+ by copy deeper", "pos changes y by bare own", "pos by renew own"):
            self.check(Library.read(begin + sign), 3, families)
        library = Library.read("library Root\nneeds x\nneeds y\nabs by bare own\n- changes y by copy other\nneg by copy own")
        self.check(library, 3, families)
        entry = {each.outcome: each for each in atlas(library, "neg", Family.of("fixes", "takes"))}[("makes", ("whole", "fresh"))]
        self.assertEqual((entry.lines, entry.steps), (3, 3))

    def test_each_hook(self):
        for hook in (*HOOKS, "bare"):
            library = Library.read(f"library Root\nneeds x\nneeds y\nhook {hook}\nneg changes x by hook\n- changes y by hook")
            self.check(library, 3, [NONE, *SINGLE, Family(["call", "takes"]), Family(["fixes", "named"]), ALL])

    def test_longer_worlds_of_small_libraries(self):
        for hook, maker in (("copy", "hook"), ("bare", "hook"), (None, "renew deeper"), ("names", "call common")):
            hooks = "" if hook is None else f"hook {hook}\n"
            library = Library.read(f"library Root\nneeds x\n{hooks}+ changes x by {maker}")
            self.check(library, 4, [NONE, *SINGLE, ALL])

    def test_places_of_hooks(self):
        """Hooks that pass the parameters of their place to classes below, in worlds of up to five lines."""
        begin = "library Root\nneeds x\nneeds y\nhook renew\n"
        neg, plus = begin + "neg changes x by hook", begin + "+ changes x by hook"
        for text, words in (
            (neg, ["names", "fixes", "takes"]), (neg, ["call", "fixes", "takes"]), (neg, ["call", "ties", "needs"]),
            (plus, ["call", "takes"]), (plus, ["names", "needs"]), (plus + "\nneg by bare own", ["call", "takes"]),
        ):
            families = [Family(some) for many in range(4) for some in itertools.combinations(words, many)]
            self.check(Library.read(text), 5, families, words)

    def test_members_beside_such_a_hook(self):
        library = Library.read("library Root\nneeds x\nneeds y\nhook renew\nneg changes x by hook")
        # The new x is lost where the hook stands, what the class below takes gets its default.
        outcome = ("makes", ("placed", "carried"))
        for gone in ("fixes", "ties"):
            self.assertEqual(told(atlas(library, "neg", Family.of("names", gone, "takes")))[outcome], (5, 1))
            self.assertEqual(told(atlas(library, "neg", Family.of("call", gone, "takes")))[outcome], (5, 1))
        self.assertNotIn(outcome, told(atlas(library, "neg", Family.of("names", "fixes", "needs", "keeps"))))

    def test_drawn_libraries(self):
        rnd = random.Random(3)
        for _ in range(12):
            library = drawn_library(rnd)
            self.check(library, 2, [NONE, ALL, *[Family(rnd.sample(LICENCES, rnd.randint(1, 8))) for _ in range(6)]])


class AgainstDrawnWorlds(unittest.TestCase):
    def test_no_outcome_is_absent(self):
        rnd = random.Random(7)
        for _ in range(60):
            library = drawn_library(rnd)
            known = {}
            for _ in range(12):
                world = drawn_world(rnd, library)
                family = Family.used_by(world)
                for (sign, outcome), steps in outcomes_of(world).items():
                    key = (sign, family.words)
                    if key not in known:
                        known[key] = told(atlas(library, sign, family))
                    self.assertIn(outcome, known[key], (str(library), str(world), sign))
                    self.assertLessEqual(known[key][outcome], (world.lines, steps), (str(library), str(world), sign))

    def test_a_greater_family_has_at_least_the_outcomes(self):
        rnd = random.Random(11)
        for _ in range(40):
            library = drawn_library(rnd)
            words = rnd.sample(LICENCES, 10)
            for sign in library:
                before = {}
                for many in range(11):
                    now = told(atlas(library, sign, Family(words[:many])))
                    for outcome, place in before.items():
                        self.assertLessEqual(now[outcome], place)
                    before = now


class TheExample(unittest.TestCase):
    def test_outcomes(self):
        wanted = {
            ("fails", "lacking"): (2, 1),
            ("fails", "surplus"): (2, 1),
            ("makes", ()): (0, 1),
            ("makes", ("carried",)): (2, 1),
            ("makes", ("deep",)): (1, 1),
            ("makes", ("deep", "carried")): (3, 1),
            ("makes", ("deep", "placed", "carried")): (4, 1),
            ("makes", ("placed", "carried")): (3, 1),
        }
        self.assertEqual(told(check_entries(self, pair(), "+", ALL)), wanted)
        self.assertEqual(list(told(atlas(pair(), "+", ALL))), list(wanted))
        self.assertEqual(told(atlas(pair(), "zero", NONE)), {("makes", ()): (0, 1), ("makes", ("alike", "deep")): (1, 1)})
        self.assertEqual(told(atlas(pair(), "pos", NONE)), {("makes", ()): (0, 1)})
        self.assertEqual(set(told(atlas(pair(), "neg", Family.of("takes")))), {("makes", ()), ("makes", ("carried",))})

    def test_families_by_hand(self):
        library = library_of("- changes x by copy deeper", "abs by bare own", hook="call")
        # A copy with a new x leaves the size of the root stale: no licence is needed.
        self.assertEqual(told(atlas(library, "-", NONE)), {("makes", ("fresh",)): (0, 1)})
        self.assertEqual(told(atlas(library, "abs", NONE)), {("makes", ()): (0, 1)})
        self.assertEqual(
            told(atlas(library, "abs", Family.of("takes"))),
            {("makes", ()): (0, 1), ("makes", ("whole",)): (2, 2), ("makes", ("whole", "carried")): (2, 1)},
        )
        self.assertEqual(
            told(atlas(library, "abs", Family.of("keeps"))), {("makes", ()): (0, 1), ("makes", ("whole",)): (2, 1)},
        )
        self.assertEqual(
            told(atlas(library, "abs", Family.of("fixes"))), {("makes", ()): (0, 1), ("makes", ("fresh",)): (2, 2)},
        )

    def test_no_sign(self):
        for sign in (*OTHER_VALUES, "*", "abs", "add", ("+",), ["+"], "Pair"):
            for family in (ALL, NONE):
                with self.assertRaises(NoSign) as caught:
                    atlas(pair(), sign, family)
                self.assertEqual(caught.exception.sign, sign)

    def test_two_calls(self):
        one, other = atlas(pair(), "neg", ALL), atlas(pair(), "neg", ALL)
        rows = [(entry.sign, entry.outcome, entry.world, entry.expression, entry.lines, entry.steps) for entry in one]
        self.assertEqual(rows, [(entry.sign, entry.outcome, entry.world, entry.expression, entry.lines, entry.steps) for entry in other])
        one.clear()
        self.assertEqual(len(atlas(pair(), "neg", ALL)), len(rows))
        other[0].world.names().clear()
        self.assertEqual(other[0].world, rows[0][2])

    def test_by_names(self):
        self.assertEqual(told(atlas(family=ALL, sign="+", library=pair())), told(atlas(pair(), "+", ALL)))
        self.assertIs(bool(serves(virtues=["runs"], family=ALL, library=pair())), False)

    def test_root_and_fields_of_any_name(self):
        library = Library.read("library A\nneeds b\nneeds a\nneeds c\nkeeps d of b\nkeeps e of d\nhook copy\n+ changes a by hook")
        check_entries(self, library, "+", ALL)
        check_entries(self, Library.read("library B\nneeds x\nhook names\nneg by hook"), "neg", ALL)


class Serves(unittest.TestCase):
    def check(self, library, family, virtues):
        entries = {sign: atlas(library, sign, family) for sign in library}
        wanted = None
        for sign in library:
            for entry in entries[sign]:
                if set(lacks_of(entry.outcome)) & set(virtues):
                    place = (entry.lines, entry.steps)
                    wanted = place if wanted is None else min(wanted, place)
        verdict = serves(library, family, virtues)
        self.assertIsInstance(verdict, Verdict)
        self.assertIs(bool(verdict), wanted is None)
        if wanted is None:
            self.assertEqual((verdict.entry, len(verdict)), (None, 0))
            return verdict
        entry = verdict.entry
        check_entry(self, library, family, entry)
        self.assertTrue(set(lacks_of(entry.outcome)) & set(virtues))
        self.assertEqual((entry.lines, entry.steps), wanted)
        self.assertEqual(len(verdict), entry.lines)
        self.assertEqual(told(entries[entry.sign])[entry.outcome], wanted)
        return verdict

    def test_against_the_atlas(self):
        rnd = random.Random(5)
        for _ in range(25):
            library = drawn_library(rnd)
            for family in (NONE, ALL, Family(rnd.sample(LICENCES, 3)), Family(rnd.sample(LICENCES, 6))):
                for virtues in [[virtue] for virtue in VIRTUES] + [rnd.sample(VIRTUES, 3), list(VIRTUES), []]:
                    self.check(library, family, virtues)

    def test_the_example(self):
        self.assertTrue(self.check(pair(), NONE, ["runs", "whole", "placed", "carried", "fresh"]))
        self.assertFalse(self.check(pair(), NONE, ["alike"]))
        self.assertEqual(self.check(pair(), NONE, ["alike"]).entry.sign, "zero")
        self.assertEqual(len(self.check(pair(), ALL, ["runs"])), 2)
        self.assertEqual(len(self.check(pair(), Family.of("takes", "renew"), ["carried"])), 2)
        self.assertTrue(self.check(pair(), Family.of("keeps", "call"), ["placed", "carried"]))

    def test_an_entry_without_lines(self):
        verdict = self.check(library_of("neg changes x by copy own"), NONE, ["fresh"])
        self.assertEqual((len(verdict), bool(verdict), str(verdict.entry.world)), (0, False, ""))

    def test_length_and_truth(self):
        verdict = serves(pair(), NONE, ["runs"])
        self.assertEqual((len(verdict), bool(verdict), verdict.entry), (0, True, None))
        library = Library.read("library Root\nneeds x\nneeds y\nhook renew\nneg changes x by hook")
        for words, virtue, lines in (
            (["fixes"], "runs", 2), (["named"], "alike", 3), (["needs", "call"], "runs", 4), (["needs", "fixes", "call"], "carried", 5),
        ):
            verdict = self.check(library, Family(words), [virtue])
            self.assertEqual((len(verdict), bool(verdict), verdict.entry.lines), (lines, False, lines))

    def test_no_virtue_is_always_served(self):
        for virtues in ([], ()):
            self.assertTrue(serves(pair(), ALL, virtues))
            self.assertIsNone(serves(pair(), ALL, virtues).entry)

    def test_virtues_repeat_and_in_any_order(self):
        one = serves(pair(), ALL, ["fresh", "runs", "runs"]).entry
        other = serves(pair(), ALL, ("runs", "fresh")).entry
        self.assertEqual((one.sign, one.outcome, one.world, one.expression), (other.sign, other.outcome, other.world, other.expression))

    def test_bad_virtues(self):
        for word in (*OTHER_VALUES, "Runs", ["runs"]):
            for words in ([word], ("runs", word, "nope")):
                with self.assertRaises(BadVirtue) as caught:
                    serves(pair(), ALL, words)
                self.assertEqual(caught.exception.word, word)

    def test_nothing_is_changed(self):
        virtues = ["fresh", "runs"]
        serves(pair(), ALL, virtues)
        self.assertEqual(virtues, ["fresh", "runs"])


if __name__ == "__main__":
    unittest.main()
