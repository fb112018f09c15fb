"""Tables and price lists (points 19 and 20)."""

import unittest

from heirsback.errors import BadVirtue, NoClass, TooMany
from heirsback.expressions import Expression
from heirsback.library import Library
from heirsback.runs import run
from heirsback.tables import Table, is_right
from heirsback.virtues import VIRTUES
from heirsback.world import World
from hand import grown, tried
from samples import OTHER_VALUES, pair_world
from step_samples import library_of, world_of

EIGHT = (
    "heir Aa of Pair", "takes tag 7",
    "heir Bb of Aa", "ties y to x",
    "heir Cc of Pair", "fixes x 3", "takes late 4",
    "heir Dd of Cc", "hook renew",
    "heir Ee of Bb", "hook call",
    "heir Ff of Pair", "keeps wide of y",
    "heir Gg of Pair", "needs id",
    "heir Hh of Gg", "hook named",
)
SOME = EIGHT[:8]
OTHERS = ("heir Cc of Pair", "fixes x 3", "takes late 4", "heir Dd of Cc", "hook renew", "heir Ee of Cc", "hook call")
WORLDS = (
    pair_world(),
    pair_world("heir Named of Pair", "takes tag 7"),
    world_of("neg changes x by copy own", "+ changes y by bare own", heirs=EIGHT[:4]),
    world_of("neg changes y by hook", "+ by copy deeper", "make zero by bare own", hook="copy", heirs=SOME),
    world_of("+ changes x by call common", "make zero by call own", "pos by hook", hook="bare", heirs=OTHERS),
    world_of("abs by bare own", "pos by hook", "- changes x by copy other", hook="named", heirs=(*EIGHT[:2], "hook renew")),
)


def check_expressions(case, world, table, starts):
    """Each state's expression has the steps that the price tells, start classes alone, and the state as its end."""
    for state, price in table.prices().items():
        told = table.expression_of(state)
        found = run(world, told)
        case.assertEqual((len(told), found.end), (price, state))
        case.assertLessEqual({name for _, name in told.leaves()}, set(starts))
        asked = [word for word in str(told).replace("(", " ").replace(")", " ").split() if "." in word]
        case.assertLessEqual({word.split(".")[0] for word in asked}, set(starts))


def check_lacking(case, world, table, prices):
    for virtue in VIRTUES:
        told = table.lacking(virtue)
        if virtue not in prices:
            case.assertIsNone(told, virtue)
            continue
        steps = list(run(world, told).journal())
        case.assertEqual((len(told), len(steps)), (prices[virtue], prices[virtue]))
        case.assertTrue(all(steps[:-1]))
        case.assertNotIn(virtue, steps[-1])


class Prices(unittest.TestCase):
    def test_a_world_without_heirs(self):
        table = Table(world_of("neg changes x by copy own", "pos by call own", heirs=()))
        self.assertEqual(table.prices(), {("Pair", (), ()): 0, ("Pair", (), ("size",)): 1})
        self.assertEqual(len(table), 2)
        self.assertEqual(str(table.expression_of(("Pair", (), ("size",))))[:4], "neg(")
        self.assertEqual([virtue for virtue in VIRTUES if table.lacking(virtue)], ["fresh"])

    def test_missing_and_stale_fields(self):
        world = World.of(
            Library.read("library A\nneeds x\nneeds y\nneg changes x by copy own\npos changes y by copy own\nabs by bare own"),
            "heir B of A", "ties x to y", "takes t 4", "keeps k of x",
        )
        table = Table(world, "B")
        self.assertEqual(
            table.prices(),
            {
                ("B", (), ()): 0,
                ("B", (), ("x", "k")): 1,
                ("B", (), ("x",)): 1,
                ("B", ("t", "k"), ()): 1,
                ("B", ("t", "k"), ("x",)): 2,
            },
        )
        check_expressions(self, world, table, ["B"])

    def test_a_request_on_a_start_class(self):
        world = world_of("make zero by named", "make one by bare own", heirs=EIGHT[:4])
        # The root is no start class: only the request makes a value of it.
        self.assertEqual(Table(world, "Aa").prices(), {("Aa", (), ()): 0, ("Pair", (), ()): 1, ("Aa", ("tag",), ()): 1})
        self.assertEqual(str(Table(world, "Aa").expression_of(("Pair", (), ()))), "Aa.zero")
        self.assertEqual(Table(world, "Pair").prices(), {("Pair", (), ()): 0})
        self.assertEqual(Table(world, "Bb").prices()[("Bb", ("tag",), ("y",))], 1)

    def test_a_price_counts_all_operands(self):
        world = world_of("neg by named", "+ changes x by copy deeper", heirs=EIGHT[:2])
        # With b: Aa alone, a stale value of the root needs two values of the root.
        table = Table(world, "Aa")
        self.assertEqual(
            table.prices(),
            {("Aa", (), ()): 0, ("Aa", (), ("size",)): 1, ("Pair", (), ()): 1, ("Pair", (), ("size",)): 3},
        )
        check_expressions(self, world, table, ["Aa"])

    def test_against_all_expressions(self):
        for world in WORLDS:
            for starts in (world.names(), world.names()[:1], world.names()[-2:]):
                # Two steps of three signs over three classes are some thousands of expressions.
                most = 2
                prices, lacking = tried(world, starts, most)
                table = Table(world, *starts)
                self.assertEqual({state: price for state, price in table.prices().items() if price <= most}, prices)
                check_expressions(self, world, table, starts)
                for virtue in VIRTUES:
                    told = table.lacking(virtue)
                    least = lacking.get(virtue)
                    self.assertEqual(least, None if told is None or len(told) > most else len(told))

    def test_against_states_that_are_combined_until_nothing_gets_cheaper(self):
        for world in WORLDS:
            for starts in (world.names(), world.names()[1:2] or ["Pair"]):
                prices, lacking = grown(world, starts)
                table = Table(world, *starts)
                self.assertEqual(table.prices(), prices)
                check_expressions(self, world, table, starts)
                check_lacking(self, world, table, lacking)

    def test_eight_heirs(self):
        world = world_of("+ changes x by call deeper", "neg by hook", "abs by named", hook="renew", heirs=EIGHT)
        prices, lacking = grown(world, world.names())
        table = Table(world)
        self.assertEqual((table.prices(), len(table)), (prices, 9))
        check_lacking(self, world, table, lacking)
        self.assertEqual(Table(world, "Hh").prices(), {("Hh", (), ()): 0, ("Pair", (), ()): 1})

    def test_names_that_repeat_and_in_any_order(self):
        world = WORLDS[3]
        names = world.names()
        self.assertEqual(Table(world, *names).prices(), Table(world).prices())
        self.assertEqual(Table(world, *names[::-1], *names).prices(), Table(world).prices())
        self.assertEqual(Table(world, "Bb", "Bb", "Pair").prices(), Table(world, "Pair", "Bb").prices())

    def test_prices_are_new(self):
        table = Table(WORLDS[2])
        before = table.prices()
        table.prices().clear()
        changed = table.prices()
        changed[("Pair", (), ())] = 5
        self.assertEqual(table.prices(), before)
        self.assertEqual(Table(WORLDS[2]).prices(), before)


class Asked(unittest.TestCase):
    def test_states_and_other_values(self):
        table = Table(WORLDS[2])
        for state in table.prices():
            self.assertIn(state, table)
        others = (
            *OTHER_VALUES, "Pair", ("Pair",), ("Pair", (), (), ()), ["Pair", (), ()], ("Pair", [], ()), ("Pair", (), []),
            ("Pair", (), ("y",)), ("Other", (), ()), ("Pair", (), None), ("Pair", ("size",), ()), ("pair", (), ()),
        )
        for thing in others:
            self.assertNotIn(thing, table)
            with self.assertRaises(NoClass) as caught:
                table.expression_of(thing)
            self.assertEqual(caught.exception.name, thing)

    def test_a_virtue_that_no_step_lacks(self):
        table = Table(world_of("neg by renew own", "+ by copy deeper"))
        for virtue in VIRTUES:
            self.assertIsNone(table.lacking(virtue))

    def test_no_step_at_all_lacks_a_virtue_of_other_classes(self):
        world = world_of("neg by call own")
        self.assertEqual([virtue for virtue in VIRTUES if Table(world, "Pair", "Side").lacking(virtue)], [])
        self.assertEqual([virtue for virtue in VIRTUES if Table(world, "Low").lacking(virtue)], ["carried"])
        self.assertEqual([virtue for virtue in VIRTUES if Table(world, "Need").lacking(virtue)], ["runs"])

    def test_bad_virtues(self):
        table = Table(WORLDS[2])
        for word in (*OTHER_VALUES, "Runs", "fast", ("runs",)):
            with self.assertRaises(BadVirtue) as caught:
                table.lacking(word)
            self.assertEqual(caught.exception.word, word)
        self.assertIsNotNone(table.lacking("fresh"))

    def test_by_names(self):
        table = Table(WORLDS[2])
        state = ("Pair", (), ("size",))
        self.assertEqual(table.expression_of(state=state), table.expression_of(state))
        self.assertEqual(table.lacking(virtue="fresh"), table.lacking("fresh"))
        self.assertTrue(is_right(WORLDS[2], prices=table.prices()))
        self.assertTrue(is_right(prices=table.prices(), world=WORLDS[2]))
        self.assertEqual(len(Table(world=WORLDS[2])), len(table))


class Limits(unittest.TestCase):
    def setUp(self):
        self.library = Library.read(
            "library A\nneeds x\nneeds y\nneeds z\n"
            "neg changes x by copy own\npos changes y by copy own\nabs changes z by copy own"
        )

    def keeping(self, letter, *sources):
        """An heir with fields that get stale, each with another sign."""
        return [f"heir B{letter} of A", *[f"keeps k{letter}{source} of {source}" for source in sources]]

    def test_forty_states_stand(self):
        # The root has one state; an heir has two, four or eight.
        heirs = [line for letter in "abcd" for line in self.keeping(letter, "x", "y", "z")] + self.keeping("e", "x", "y")
        self.assertEqual(len(Table(World.of(self.library, *heirs))), 37)
        forty = World.of(self.library, *heirs, "heir C of A", "heir D of C", "heir E of D")
        self.assertEqual(len(Table(forty)), 40)
        self.assertEqual(max(Table(forty).prices().values()), 3)
        self.assertIs(is_right(forty, Table(forty).prices()), True)

    def test_forty_one_raise(self):
        world = World.of(self.library, *[line for letter in "abcde" for line in self.keeping(letter, "x", "y", "z")])
        for asked in (lambda: Table(world), lambda: Table(world, *world.names()), lambda: is_right(world, {})):
            with self.assertRaises(TooMany) as caught:
                asked()
            self.assertEqual(caught.exception.what, "states")
        self.assertEqual(len(Table(world, "Ba", "Bb", "Bc", "Bd", "Be")), 40)
        self.assertEqual(len(Table(world, "A", "Ba", "Bb", "Bc", "Bd")), 33)

    def test_no_class_comes_first(self):
        lines = "library A\nneeds x\nneeds y\nneeds z\nkeeps k of x\nkeeps g of y\n"
        library = Library.read(lines + "\n".join(f"{sign} changes {field} by copy own" for sign, field in zip("+-*", "xyz")))
        world = World.of(library, *[line for at in range(8) for line in (f"heir B{'abcdefgh'[at]} of A", f"keeps f{'abcdefgh'[at]} of z")])
        for names, wrong in ((("A", "Nope", "No"), "Nope"), ((["A"],), ["A"]), ((None, "A"), None), ((True,), True)):
            for asked in (lambda: Table(world, *names), lambda: is_right(world, {}, *names)):
                with self.assertRaises(NoClass) as caught:
                    asked()
                self.assertEqual(caught.exception.name, wrong)
        for asked in (lambda: Table(world), lambda: is_right(world, {}), lambda: is_right(world, {}, *world.names())):
            with self.assertRaises(TooMany) as caught:
                asked()
            self.assertEqual(caught.exception.what, "states")
        self.assertEqual(len(Table(world, "A", "Ba", "Bb")), 20)

    def test_names_of_every_kind(self):
        for name in (*OTHER_VALUES, "pair", "Pairs"):
            with self.assertRaises(NoClass) as caught:
                Table(pair_world(), "Pair", name)
            self.assertEqual(caught.exception.name, name)


class RightLists(unittest.TestCase):
    def setUp(self):
        self.world = world_of("neg changes x by copy own", "+ changes y by bare own", heirs=EIGHT[:4])
        self.right = Table(self.world).prices()

    def test_right(self):
        self.assertIs(is_right(self.world, self.right), True)
        self.assertIs(is_right(self.world, dict(reversed(list(self.right.items())))), True)
        for names in (["Pair"], ["Aa"], ["Bb", "Pair"], ["Aa", "Aa"]):
            self.assertIs(is_right(self.world, Table(self.world, *names).prices(), *names), True)
            self.assertIs(is_right(self.world, self.right, *names), False)

    def test_a_key_too_many_too_few_or_another_one(self):
        for state in self.right:
            few = {key: price for key, price in self.right.items() if key != state}
            self.assertIs(is_right(self.world, few), False)
            for other in ("Pair", None, 1, True, ("Pair",), ("Other", (), ()), (state[0], (), ("y",) * 3), -1, ""):
                self.assertIs(is_right(self.world, {**few, other: self.right[state]}), False)
                self.assertIs(is_right(self.world, {**self.right, other: 0}), False)
        self.assertIs(is_right(self.world, {}), False)

    def test_prices(self):
        for state, price in self.right.items():
            for other in (price + 1, price - 1, -price - 1, str(price), None, (), [price], price == 1, bool(price), (price,), 10 ** 29):
                self.assertIs(is_right(self.world, {**self.right, state: other}), False, other)

    def test_truth_values_are_no_integers(self):
        world = world_of("neg changes x by copy own", heirs=())
        fresh, stale = ("Pair", (), ()), ("Pair", (), ("size",))
        self.assertIs(is_right(world, {fresh: 0, stale: 1}), True)
        self.assertIs(is_right(world, {fresh: False, stale: 1}), False)
        self.assertIs(is_right(world, {fresh: 0, stale: True}), False)

    def test_nothing_is_changed(self):
        given = dict(self.right)
        is_right(self.world, given)
        self.assertEqual(list(given.items()), list(self.right.items()))


if __name__ == "__main__":
    unittest.main()
