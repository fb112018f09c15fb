"""What tells two libraries apart (point 28), against runs in all small worlds and in drawn ones."""

import itertools
import random
import unittest

from drawn import HOOKS, LICENCES, drawn_library, drawn_world, small_worlds
from heirsback.errors import Unlike
from heirsback.expressions import Expression
from heirsback.families import Family
from heirsback.library import Library
from heirsback.parting import Parting, check_comparable, parted
from heirsback.runs import run
from heirsback.spelling import LICENCES as WORDS
from heirsback.steps import request, step
from heirsback.values import Value, by_names
from heirsback.world import World
from samples import FULL_LINES, pair, replaced, text_of
from step_samples import library_of

ALL = Family(LICENCES)
NONE = Family([])


def pattern(value):
    """A value but for its numbers: which are told in texts, and which of the others are equal."""
    first = {}
    rows = []
    for at, (field, number) in enumerate(value.numbers().items()):
        rows.append((field, number if number < 1000 else 1000 + first.setdefault(number, at)))
    return value.name, tuple(rows)


class Hand:
    """All values that two worlds make alike, but for their numbers, and the fewest steps that tell the worlds apart."""

    def __init__(self, one, other):
        self.worlds = (one, other)
        self.number = 1000
        self.offered = {}
        self.known = {}
        self.best = None
        for name in one.names():
            fields = [field for field, _ in one.parameters(name)]
            self.offer(by_names(one, name, **{field: self.number + at for at, field in enumerate(fields)}), 0)
            self.number += len(fields)
        for sign in one.library:
            if one.library.arity(sign) == 0:
                for name in one.names():
                    self.take([request(world, sign, name, start=self.number) for world in self.worlds], 1)
        while self.offered:
            key = min(self.offered, key=lambda each: self.offered[each][0])
            self.known[key] = self.offered.pop(key)
            self.combine(*self.known[key])

    def combine(self, price, value):
        library = self.worlds[0].library
        for sign in library:
            if library.arity(sign) == 1:
                self.take([step(world, sign, value, start=self.number) for world in self.worlds], price + 1)
            if library.arity(sign) == 2:
                for more, beside in list(self.known.values()):
                    beside = self.renumbered(beside)
                    for pair_of in ((value, beside), (beside, value)):
                        self.take([step(world, sign, *pair_of, start=self.number) for world in self.worlds], price + more + 1)

    def renumbered(self, value):
        """The same value with other numbers, as if it came from other labels."""
        numbers = value.numbers()
        others = {number: self.number + at for at, number in enumerate(numbers.values()) if number >= 1000}
        self.number += len(numbers)
        return Value(self.worlds[0], value.name, {field: others.get(number, number) for field, number in numbers.items()})

    def take(self, steps, price):
        self.number += 3
        one, other = [done.value for done in steps]
        if one != other:
            self.best = price if self.best is None else min(price, self.best)
        elif one is not None:
            self.offer(one, price)

    def offer(self, value, price):
        key = pattern(value)
        if key not in self.known and (key not in self.offered or price < self.offered[key][0]):
            self.offered[key] = (price, value)


def varied(rnd, library):
    """A comparable library with other makers or another hook."""
    for sign in library:
        if rnd.random() < 0.6:
            makers = Library.makers(library.arity(sign), hook=library.root_hook is not None)
            library = library.with_maker(sign, rnd.choice(makers))
    if library.root_hook is None or rnd.random() < 0.5:
        return library
    word = rnd.choice((*HOOKS, "bare"))
    return Library.read(str(library).replace(f"hook {library.root_hook}\n", f"hook {word}\n", 1))


class Comparable(unittest.TestCase):
    def check(self, one, other, at):
        for asked in (
            lambda: check_comparable(one, other), lambda: check_comparable(other, one),
            lambda: parted(one, other, ALL), lambda: parted(other, one, NONE),
        ):
            with self.assertRaises(Unlike) as caught:
                asked()
            self.assertEqual(caught.exception.at, at)

    def test_each_place(self):
        lines = list(FULL_LINES)
        library = Library.read(text_of(lines))
        wrong = {
            0: [replaced(lines, 0, "library Abcdefg")],
            1: [[line.replace(" x", " w") for line in lines], [line.replace(" z", " q") for line in lines]],
            2: [replaced(lines, 5, "keeps wide of z"), replaced(lines, 5, "keeps broad of size"), lines[:5] + lines[6:]],
            3: [lines[:-1], [*lines[:7], lines[8], lines[7], *lines[9:]], replaced(lines, 9, "make two by named")],
            4: [
                replaced(lines, 7, "+ changes x by call own"), replaced(lines, 7, "+ by call own"),
                replaced(lines, 10, "// changes z by copy deeper"),
            ],
        }
        for at, texts in wrong.items():
            for other in texts:
                self.check(library, Library.read(text_of(other)), at)

    def test_several_at_once(self):
        base = {"first": "library A", "parameters": "needs x", "kept": "keeps k of x", "signs": "+ changes x by named", "more": "- by named"}
        others = ("library B", "needs y", "keeps j of x", "* changes x by named", "- changes x by named")
        one = Library.read(text_of(list(base.values())))
        for chosen in itertools.product((False, True), repeat=5):
            if not any(chosen):
                continue
            lines = [other if is_other else line for line, other, is_other in zip(base.values(), others, chosen)]
            if chosen[1]:
                lines = [line.replace("x", "y") for line in lines]
            self.check(one, Library.read(text_of(lines)), chosen.index(True))

    def test_makers_and_hooks_may_differ(self):
        one = library_of("+ changes x by named", "neg by hook", hook="call")
        for other in (
            one, library_of("+ changes x by copy own", "neg by named", hook="call"), library_of("+ changes x by named", "neg by named"),
            library_of("+ changes x by hook", "neg by call own", hook="bare"),
        ):
            self.assertIsNone(check_comparable(one, other))
            self.assertIsNone(check_comparable(other=one, one=other))


class Parted(unittest.TestCase):
    def check(self, one, other, family):
        """The parting in both orders of the libraries: the lines and the steps, or None."""
        found = parted(one, other, family)
        again = parted(other, one, family)
        if found is None:
            self.assertIsNone(again)
            return None
        for parting, libraries in ((found, (one, other)), (again, (other, one))):
            self.assertIsInstance(parting, Parting)
            self.assertEqual((parting.one.library, parting.other.library), libraries)
            self.assertEqual(str(parting.one), str(parting.other))
            self.assertIn(parting.one, family)
            self.assertIsInstance(parting.expression, Expression)
            first, second = run(parting.one, parting.expression), run(parting.other, parting.expression)
            self.assertTrue(first or second)
            self.assertNotEqual(first.value, second.value)
        place = (found.one.lines, len(found.expression))
        self.assertEqual(place, (again.one.lines, len(again.expression)))
        return place

    def against_worlds(self, one, other, most, families):
        rows = []
        for world in small_worlds(one, most):
            best = Hand(world, World.read(other, str(world))).best
            if best is not None:
                rows.append((set(world.licences()), (world.lines, best)))
        found = []
        for family in families:
            places = [place for words, place in rows if words <= set(family.words)]
            place = self.check(one, other, family)
            found.append(place)
            if place is not None and place[0] > most:
                place = None
            self.assertEqual(place, min(places, default=None), (str(one), str(other), family))
        return found

    def test_each_two_makers(self):
        families = [NONE, *[Family([word]) for word in WORDS], Family.of("fixes", "takes"), ALL]
        rnd = random.Random(8)
        for arity, sign in ((2, "+ changes x"), (1, "neg changes y"), (0, "make zero")):
            pairs = list(itertools.combinations(Library.makers(arity), 2))
            for one, other in rnd.sample(pairs, min(len(pairs), 30)):
                hook = rnd.choice((*HOOKS, "bare"))
                libraries = [library_of(f"{sign} by {maker}", hook=hook) for maker in (one, other)]
                self.against_worlds(*libraries, 2, families)

    def test_drawn_libraries(self):
        rnd = random.Random(9)
        seen = set()
        for _ in range(60):
            one = drawn_library(rnd)
            families = [NONE, ALL, *[Family(rnd.sample(LICENCES, rnd.randint(1, 5))) for _ in range(5)]]
            seen |= set(self.against_worlds(one, varied(rnd, one), 2, families))
        self.assertGreater(len(seen), 3)

    def test_beside_operations_that_make_odd_values(self):
        rnd = random.Random(12)
        seen = set()
        families = [NONE, *[Family([word]) for word in WORDS[:5]], Family.of("keeps", "copy"), ALL]
        odd = ("abs changes x by copy own", "pos by bare own")
        for arity, sign in ((2, "+"), (2, "+ changes y"), (1, "neg")):
            for one, other in rnd.sample(list(itertools.combinations(Library.makers(arity), 2)), 20):
                lines = ["library Root", "needs x", "needs y", "hook renew", *odd]
                libraries = [Library.read(text_of([*lines, f"{sign} by {maker}"])) for maker in (one, other)]
                seen |= set(self.against_worlds(*libraries, 2, families))
        self.assertLessEqual({None, (0, 1), (1, 1), (2, 1), (2, 2)}, seen)

    def test_longer_worlds(self):
        renewed = Library.read("library Root\nneeds x\nhook renew\nneg by hook")
        own = Library.read("library Root\nneeds x\nhook renew\nneg by renew own")
        families = [ALL, Family.of("call", "takes"), Family.of("names", "takes"), Family.of("call", "needs"), Family.of("call", "keeps")]
        found = self.against_worlds(renewed, own, 4, families)
        self.assertEqual(found[1:], [(4, 1), (4, 1), (4, 1), None])

    def test_no_run_in_drawn_worlds_tells_what_is_not_parted(self):
        rnd = random.Random(10)
        many = 0
        for _ in range(150):
            one = drawn_library(rnd, parameters=2)
            other = varied(rnd, one)
            world = drawn_world(rnd, one, 3)
            best = Hand(world, World.read(other, str(world))).best
            place = self.check(one, other, Family.used_by(world))
            if best is not None:
                self.assertLessEqual(place, (world.lines, best))
            many += place is None
        self.assertGreater(many, 10)

    def test_by_hand(self):
        renew, copy = library_of("neg changes x by renew own"), library_of("neg changes x by copy own")
        # A copy leaves the size of the root as it was.
        self.assertEqual(self.check(renew, copy, NONE), (0, 1))
        plain = "library A\nneeds x\nneeds y\nneg changes x by "
        renew, copy, bare = [Library.read(plain + maker) for maker in ("renew own", "copy own", "bare own")]
        self.assertIsNone(self.check(renew, copy, Family.of("needs", "takes", *HOOKS)))
        self.assertEqual(self.check(renew, copy, Family.of("keeps")), (2, 1))
        self.assertEqual(self.check(renew, copy, ALL), (2, 1))
        self.assertIsNone(self.check(bare, copy, Family.of("fixes", "ties")))
        self.assertEqual(self.check(bare, copy, Family.of("takes")), (2, 1))
        self.assertIsNone(self.check(renew, renew, ALL))

    def test_two_steps(self):
        lines = "library A\nneeds x\nkeeps k of x\nneg changes x by copy own\npos by "
        one, other = Library.read(lines + "renew own"), Library.read(lines + "copy own")
        self.assertEqual(self.check(one, other, NONE), (0, 2))
        self.assertEqual(str(parted(one, other, NONE).expression).replace("a:", ""), "pos(neg(A))")

    def test_the_hook(self):
        one, other = library_of("neg by hook", "+ by named", hook="renew"), library_of("neg by hook", "+ by named", hook="call")
        self.assertIsNone(self.check(one, other, Family.of(*HOOKS, "keeps")))
        self.assertEqual(self.check(one, other, ALL), (2, 1))
        # No operation uses the hook.
        self.assertIsNone(self.check(library_of("neg by named", hook="renew"), library_of("neg by named", hook="bare"), ALL))
        self.assertIsNone(self.check(library_of("neg by named", hook="renew"), library_of("neg by named"), ALL))
        # Both differ, and the same comes of it.
        self.assertIsNone(self.check(library_of("neg by hook", hook="renew"), library_of("neg by renew own", hook="call"), NONE))
        self.assertEqual(self.check(library_of("neg by hook", hook="renew"), library_of("neg by renew own"), Family.of("named")), (3, 1))

    def test_hooks_that_copy(self):
        begin = "library Root\nneeds x\nhook renew\n"
        one, other = Library.read(begin + "neg changes x by hook"), Library.read(begin + "neg changes x by renew own")
        self.assertEqual(self.against_worlds(one, other, 3, [Family.of("copy", "keeps")]), [(3, 1)])
        # The hook is the same in both libraries, but serves to make values with stale fields.
        begin += "neg changes x by hook\npos by "
        one, other = Library.read(begin + "renew own"), Library.read(begin + "copy own")
        families = [Family.of("copy", "keeps"), Family.of("copy"), Family.of("keeps"), Family.of("copy", "takes"), ALL]
        self.assertEqual(self.against_worlds(one, other, 3, families), [(3, 2), None, None, None, (3, 2)])

    def test_makers_that_make_the_same(self):
        one, other = library_of("+ by call own"), library_of("+ by names own")
        self.assertIsNone(self.check(one, other, Family.of("needs", "takes", "keeps")))
        # Both fail where a parameter is gone, but for a new one that takes its place.
        self.assertIsNone(self.check(one, other, Family.of("fixes", "ties")))
        self.assertEqual(self.check(one, other, Family.of("fixes", "takes")), (3, 1))

    def test_two_calls(self):
        one, other = pair(), pair().with_maker("+", "renew own")
        first, second = parted(one, other, ALL), parted(family=ALL, other=other, one=one)
        self.assertEqual((first.one, first.other, first.expression), (second.one, second.other, second.expression))
        first.one.names().clear()
        self.assertEqual(first.one, second.one)
        self.assertEqual((one, other), (pair(), pair().with_maker("+", "renew own")))


if __name__ == "__main__":
    unittest.main()
