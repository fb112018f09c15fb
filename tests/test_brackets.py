"""Rows in brackets (point 21)."""

import itertools
import unittest

from heirsback.brackets import Evenness, bracketings, ends, even
from heirsback.errors import NoClass, NoSign, TooMany
from heirsback.expressions import Expression
from heirsback.library import Library
from heirsback.runs import run
from heirsback.search import label_of
from heirsback.spelling import BINARY_SIGNS
from heirsback.world import World
from samples import OTHER_VALUES, pair_world
from step_samples import library_of, world_of

CATALAN = (1, 1, 2, 5, 14, 42, 132)
HEIRS = (
    "heir Low of Pair", "takes tag 7",
    "heir Deep of Low", "ties y to x",
    "heir Side of Pair", "fixes x 5",
    "heir Own of Side", "hook call",
)


def leaves_of(names):
    return [Expression.leaf("abcdefgh"[at], name) for at, name in enumerate(names)]


def all_bracketings(sign, texts):
    """The texts of all bracketings, once more."""
    if len(texts) == 1:
        return list(texts)
    found = []
    for cut in range(1, len(texts)):
        pairs = itertools.product(all_bracketings(sign, texts[:cut]), all_bracketings(sign, texts[cut:]))
        found += [f"({left} {sign} {right})" for left, right in pairs]
    return found


def ends_of(world, sign, names):
    row = [str(leaf) for leaf in leaves_of(names)]
    return {run(world, Expression.read(text)).end for text in all_bracketings(sign, row)}


def shortest_uneven(world, sign, starts, most):
    """The number of leaves of the shortest uneven row of up to this many; 0 if there is none."""
    for many in range(1, most + 1):
        for names in itertools.product(starts, repeat=many):
            if len(ends_of(world, sign, names)) > 1:
                return many
    return 0


class Bracketings(unittest.TestCase):
    def test_each_once(self):
        for sign in BINARY_SIGNS:
            for many, count in zip(range(1, 8), CATALAN):
                row = leaves_of(["Pair", "Low", "Pair", "Deep", "Low", "Pair", "Side"][:many])
                told = [str(one) for one in bracketings(sign, *row)]
                self.assertEqual(len(told), count)
                self.assertEqual(sorted(told), sorted(all_bracketings(sign, [str(leaf) for leaf in row])))
                self.assertEqual(len(set(told)), count)

    def test_they_are_expressions(self):
        row = leaves_of(["Pair", "Low", "Pair"])
        found = list(bracketings("<<", *row))
        for one in found:
            self.assertIsInstance(one, Expression)
            self.assertEqual((len(one), one.signs(), one.leaves()), (2, ["<<", "<<"], [("a", "Pair"), ("b", "Low"), ("c", "Pair")]))
        self.assertEqual(set(map(str, found)), {"((a:Pair << b:Low) << c:Pair)", "(a:Pair << (b:Low << c:Pair))"})
        self.assertEqual([str(leaf) for leaf in row], ["a:Pair", "b:Low", "c:Pair"])

    def test_a_generator(self):
        told = bracketings("+", *leaves_of(["Pair"] * 7))
        self.assertIs(iter(told), told)
        self.assertIsInstance(next(told), Expression)
        self.assertEqual(len(list(told)), 131)
        self.assertEqual([str(one) for one in bracketings("-", Expression.leaf("zz", "Low"))], ["zz:Low"])


class Labels(unittest.TestCase):
    def test_labels(self):
        told = {0: "a", 1: "b", 25: "z", 26: "aa", 27: "ab", 51: "az", 52: "ba", 701: "zz", 702: "aaa"}
        self.assertEqual({at: label_of(at) for at in told}, told)
        self.assertEqual(len({label_of(at) for at in range(2000)}), 2000)


class Ends(unittest.TestCase):
    def check(self, world, sign, names, any_order=False):
        found = ends(world, sign, *names, any_order=any_order)
        orders = list(itertools.permutations([f"{'abcdefg'[at]}:{name}" for at, name in enumerate(names)])) if any_order else []
        rows = orders or [tuple(f"{'abcdefg'[at]}:{name}" for at, name in enumerate(names))]
        wanted = set()
        texts = set()
        for row in rows:
            told = all_bracketings(sign, list(row))
            texts |= set(told)
            wanted |= {run(world, Expression.read(text)).end for text in told}
        self.assertEqual(set(found), wanted)
        for end, told in found.items():
            self.assertIn(str(told), texts)
            self.assertEqual(run(world, told).end, end)
        return found

    def test_against_all_bracketings(self):
        for maker in ("call deeper", "call own", "copy other", "renew other", "named", "bare own", "names common", "hook"):
            world = world_of(f"+ changes x by {maker}", hook="renew", heirs=HEIRS)
            for names in (["Low"], ["Low", "Side"], ["Deep", "Low", "Side"], ["Pair", "Deep", "Low", "Own"], ["Low"] * 3):
                self.check(world, "+", names)
                self.check(world, "+", names, any_order=True)

    def test_one_leaf(self):
        self.assertEqual({end: str(told) for end, told in ends(pair_world(), "+", "Pair").items()}, {("Pair", (), ()): "a:Pair"})
        self.assertEqual(list(ends(pair_world(), "+", "Pair", any_order=True)), [("Pair", (), ())])

    def test_ends_differ(self):
        world = world_of("- changes y by copy deeper", heirs=HEIRS)
        found = self.check(world, "-", ["Low", "Side", "Deep"])
        # With the brackets to the left the right operand is copied, with those to the right the left one is.
        self.assertEqual(set(found), {("Deep", (), ("y",)), ("Low", (), ())})
        failing = world_of("+ by names own", heirs=HEIRS)
        self.assertEqual(set(self.check(failing, "+", ["Pair", "Side", "Pair"])), {("fails",), ("Pair", (), ())})

    def test_other_orders_have_other_ends(self):
        world = world_of("+ by copy own", heirs=HEIRS)
        self.assertEqual(set(ends(world, "+", "Low", "Side", "Pair")), {("Low", (), ())})
        self.assertEqual(
            set(ends(world, "+", "Low", "Side", "Pair", any_order=True)), {("Low", (), ()), ("Side", (), ()), ("Pair", (), ())}
        )
        self.assertEqual(set(ends(world, "+", "Low", "Side", "Pair", any_order=False)), {("Low", (), ())})

    def test_seven_leaves(self):
        world = world_of("+ changes x by copy other", heirs=HEIRS)
        names = ["Low", "Side", "Deep", "Pair", "Own", "Low", "Pair"]
        self.check(world, "+", names)

    def test_too_many_leaves(self):
        world = world_of("+ by named", heirs=HEIRS)
        self.assertEqual(len(ends(world, "+", *["Low"] * 7)), 1)
        self.assertEqual(len(ends(world, "+", *["Low"] * 4, any_order=True)), 1)
        wrong = [(8, False), (9, False), (100, False), (5, True), (7, True), (8, True), (0, False), (0, True)]
        for many, any_order in wrong:
            with self.assertRaises(TooMany) as caught:
                ends(world, "+", *["Low"] * many, any_order=any_order)
            self.assertEqual(caught.exception.what, "leaves")

    def test_new_each_time(self):
        world = pair_world()
        ends(world, "+", "Pair", "Pair").clear()
        self.assertEqual(len(ends(world, "+", "Pair", "Pair")), 1)

    def test_order_of_errors(self):
        world = world_of("+ by named", "neg by named", "make zero by named", heirs=HEIRS)
        for sign in (*OTHER_VALUES, "neg", "zero", "-", "add", ("+",), ["+"]):
            for names in ((), ("Low",), ("Nope",), ("Low",) * 9):
                for asked in (ends, even):
                    with self.assertRaises(NoSign) as caught:
                        asked(world, sign, *names)
                    self.assertEqual(caught.exception.sign, sign)
        for name in (*OTHER_VALUES, "low", ["Low"]):
            for before in ((), ("Low",), ("Low",) * 8):
                for asked in (ends, even):
                    with self.assertRaises(NoClass) as caught:
                        asked(world, "+", *before, name, "Nope")
                    self.assertEqual(caught.exception.name, name)
        with self.assertRaises(NoClass):
            ends(world, "+", *["Low"] * 4, "Nope", any_order=True)

    def test_by_names(self):
        world = pair_world()
        self.assertEqual(ends(world, "+", "Pair", any_order=False), ends(world, "+", "Pair"))
        self.assertTrue(even(world=world, sign="+"))
        self.assertTrue(even(sign="+", world=world))
        with self.assertRaises(TooMany):
            ends(sign="+", world=world)
        with self.assertRaises(TooMany):
            ends(any_order=True, sign="+", world=world)


class Even(unittest.TestCase):
    def check(self, world, sign, *names):
        found = even(world, sign, *names)
        self.assertIsInstance(found, Evenness)
        if found:
            self.assertIs(bool(found), True)
            self.assertEqual((found.pair, len(found)), (None, 0))
            return found
        self.assertIsInstance(found.pair, tuple)
        one, other = found.pair
        self.assertNotEqual(run(world, one).end, run(world, other).end)
        self.assertEqual(one.leaves(), other.leaves())
        row = one.leaves()
        self.assertEqual(len({label for label, _ in row}), len(row))
        self.assertEqual((len(row), len(one), len(other)), (len(found), len(found) - 1, len(found) - 1))
        self.assertLessEqual({name for _, name in row}, set(names or world.names()))
        self.assertEqual(set(one.signs()), {sign})
        # A row is told by the order of its leaves in both texts.
        texts = [f"{label}:{name}" for label, name in row]
        for told in (one, other):
            self.assertIn(str(told), all_bracketings(sign, texts))
        return found

    def test_against_all_shorter_rows(self):
        for changes in ("", " changes x", " changes y"):
            for maker in Library.makers(2):
                world = world_of(f"+{changes} by {maker}", hook="copy", heirs=HEIRS[:6])
                found = self.check(world, "+")
                self.assertEqual(len(found), shortest_uneven(world, "+", world.names(), len(found) or 3), (changes, maker))

    def test_some_classes_only(self):
        world = world_of("+ by copy own", "- by copy deeper", "* by named", heirs=HEIRS)
        self.assertTrue(even(world, "+"))
        self.assertTrue(even(world, "*"))
        self.assertFalse(self.check(world, "-"))
        self.assertFalse(self.check(world, "-", "Low", "Side", "Deep"))
        self.assertTrue(even(world, "-", "Low", "Deep"))
        self.assertTrue(even(world, "-", "Low", "Deep", "Low"))
        self.assertTrue(even(world, "-", "Side"))
        self.assertEqual(len(even(world, "-")), 3)

    def test_a_failure_is_an_end(self):
        world = world_of("+ by names own", heirs=HEIRS)
        found = self.check(world, "+", "Pair", "Side")
        self.assertEqual(len(found), shortest_uneven(world, "+", ["Pair", "Side"], 3))
        self.assertTrue(even(world, "+", "Side"))
        self.assertTrue(even(world, "+", "Pair"))

    def test_all_signs_and_hooks(self):
        heirs = (
            "heir Low of Pair", "takes tag 7", "hook call", "heir Deep of Low", "fixes x 4", "takes late 5", "heir Last of Deep",
            "hook copy", "heir Side of Pair", "needs id", "hook names",
        )
        for root_hook in ("named", "call", "bare", "copy"):
            world = World.of(library_of("+ changes x by hook", "- by hook", hook=root_hook), *heirs)
            for sign in "+-":
                for names in (["Low", "Deep"], ["Deep", "Last"], ["Low", "Side"], ["Pair", "Last", "Side"]):
                    found = self.check(world, sign, *names)
                    self.assertEqual(len(found), shortest_uneven(world, sign, names, len(found) or 4))

    def test_a_shortest_row_of_more_than_three_leaves(self):
        """Searched among all libraries with one sign and two heirs of some kinds."""
        lengths = {}
        removals = ((), ("fixes x 3",), ("ties x to y",), ("ties y to x",))
        fields = ((), ("takes tag 7",), ("keeps wide of x",), ("needs id",))
        members = [removal + field for removal in removals for field in fields]
        for maker, hook, more, again in itertools.product(Library.makers(2), ("bare", "copy"), members, ((), ("takes late 5",))):
            world = world_of(f"+ changes x by {maker}", hook=hook, heirs=("heir Low of Pair", *more, "heir Deep of Low", *again))
            for names in ((), ("Low",), ("Deep",), ("Low", "Deep")):
                found = self.check(world, "+", *names)
                lengths.setdefault(len(found), (world, names))
        for many, (world, names) in lengths.items():
            self.assertEqual(shortest_uneven(world, "+", names or world.names(), many or 4), many)
        self.assertLessEqual({0, 3}, set(lengths))

    def test_asked_twice(self):
        world = world_of("+ by copy deeper", heirs=HEIRS)
        found = even(world, "+")
        self.assertEqual((found.pair, len(found), bool(found)), (found.pair, len(found), bool(found)))
        self.assertEqual(found.pair, even(world, "+").pair)


if __name__ == "__main__":
    unittest.main()
