"""Choosing makers (point 27), against all choices."""

import itertools
import random
import unittest

from drawn import LICENCES, drawn_library
from heirsback.atlas import serves
from heirsback.choosing import Choice, cheapest, fitting
from heirsback.errors import BadMaker, BadVirtue, NoSign, TooMany
from heirsback.families import Family
from heirsback.library import Library
from heirsback.virtues import VIRTUES
from samples import OTHER_VALUES, pair
from step_samples import library_of

ALL = Family(LICENCES)
EVERY = [maker for maker in Library.makers(2)] + ["hook"]


def allowed(library, sign):
    return Library.makers(library.arity(sign), hook=library.root_hook is not None)


def all_choices(library, prices):
    """Each library that prices allow, with its price."""
    rows = [[maker for maker in allowed(library, sign) if maker in prices] for sign in library]
    for makers in itertools.product(*rows):
        made = library
        for sign, maker in zip(library, makers):
            made = made.with_maker(sign, maker)
        yield made, sum(prices[maker] for maker in makers)


class Fitting(unittest.TestCase):
    def test_against_each_maker(self):
        rnd = random.Random(27)
        for _ in range(25):
            library = drawn_library(rnd)
            family = Family(rnd.sample(LICENCES, rnd.randint(0, 10)))
            for virtues in (rnd.sample(VIRTUES, 1), rnd.sample(VIRTUES, 2), list(VIRTUES), []):
                for sign in library:
                    wanted = [
                        maker for maker in allowed(library, sign) if serves(library.with_maker(sign, maker), family, virtues)
                    ]
                    self.assertEqual(fitting(library, sign, family, virtues), wanted)

    def test_order_and_hooks(self):
        without = library_of("+ changes x by named", "neg by named", "make zero by named")
        self.assertEqual(fitting(without, "+", ALL, []), Library.makers(2, hook=False))
        self.assertEqual(fitting(without, "neg", ALL, []), Library.makers(1, hook=False))
        self.assertEqual(fitting(without, "zero", ALL, []), Library.makers(0))
        self.assertEqual(fitting(pair(), "+", ALL, []), Library.makers(2))
        self.assertEqual(fitting(pair(), "zero", ALL, ()), Library.makers(0))
        self.assertEqual(fitting(pair(), "zero", Family([]), ["alike"]), ["call own", "names own", "bare own"])
        # Here `zero` is at fault, whatever the maker of `+` is.
        self.assertEqual(fitting(pair(), "+", Family([]), ["alike"]), [])

    def test_by_hand(self):
        library = library_of("+ by named", hook="copy")
        self.assertEqual(
            fitting(library, "+", Family([]), ["deep"]),
            ["call deeper", "names deeper", "renew deeper", "copy deeper"],
        )
        self.assertEqual(
            fitting(library, "+", ALL, ["runs", "alike", "carried"]),
            ["renew own", "renew other", "renew deeper", "copy own", "copy other", "copy deeper"],
        )
        changed = library_of("+ changes x by named", hook="copy")
        self.assertEqual(fitting(changed, "+", ALL, ["runs", "alike", "carried"]), ["copy own", "copy other", "copy deeper"])
        zero = library_of("make zero by named")
        self.assertEqual(fitting(zero, "zero", Family.of("takes"), ["alike"]), ["call own", "names own", "bare own"])
        self.assertEqual(fitting(zero, "zero", Family.of("takes"), ["alike", "whole"]), ["call own", "names own"])

    def test_errors(self):
        for sign in (*OTHER_VALUES, "*", "add", ["+"], "call own"):
            with self.assertRaises(NoSign) as caught:
                fitting(pair(), sign, ALL, ["runs"])
            self.assertEqual(caught.exception.sign, sign)
            with self.assertRaises(BadVirtue) as caught:
                fitting(pair(), sign, ALL, ["runs", sign])
            self.assertEqual(caught.exception.word, sign)

    def test_new_each_time(self):
        library = pair()
        fitting(library, "+", ALL, []).clear()
        self.assertEqual(len(fitting(virtues=[], family=ALL, sign="+", library=library)), 17)
        self.assertEqual(library, pair())


class Cheapest(unittest.TestCase):
    def check(self, library, prices, family, virtues):
        wanted = [price for made, price in all_choices(library, prices) if serves(made, family, virtues)]
        before = dict(prices)
        found = cheapest(library, prices, family, virtues)
        self.assertEqual(prices, before)
        if not wanted:
            self.assertIsNone(found)
            return None
        self.assertIsInstance(found, Choice)
        self.assertEqual(found.price, min(wanted))
        self.assertIn((found.library, found.price), list(all_choices(library, prices)))
        self.assertTrue(serves(found.library, family, virtues))
        return found

    def test_one_operation(self):
        rnd = random.Random(1)
        for _ in range(30):
            library = drawn_library(rnd, 1)
            prices = {maker: rnd.randint(0, 5) for maker in EVERY if rnd.random() < 0.9}
            for virtues in [[virtue] for virtue in VIRTUES] + [list(VIRTUES), []]:
                self.check(library, prices, Family(rnd.sample(LICENCES, rnd.randint(0, 10))), virtues)

    def test_two_operations(self):
        rnd = random.Random(2)
        for _ in range(12):
            library = drawn_library(rnd, 2)
            prices = {maker: rnd.randint(0, 9) for maker in EVERY if rnd.random() < 0.7}
            for virtues in (rnd.sample(VIRTUES, 1), rnd.sample(VIRTUES, 2), ["runs", "carried"]):
                self.check(library, prices, Family(rnd.sample(LICENCES, rnd.randint(0, 10))), virtues)

    def test_three_operations(self):
        rnd = random.Random(3)
        for _ in range(10):
            library = drawn_library(rnd, 3)
            prices = {maker: rnd.randint(0, 20) for maker in rnd.sample(EVERY, 6)} | {"bare own": 0, "renew own": 3, "copy own": 9}
            for virtues in (["runs"], ["carried"], rnd.sample(VIRTUES, 2)):
                self.check(library, prices, Family(rnd.sample(LICENCES, 5)), virtues)

    def test_makers_that_serve_alone_and_not_together(self):
        # Each is served alone; the copies of values without a constructor lack what the others carry.
        library = library_of("+ by copy other", "neg by bare own", hook="renew")
        family = Family.of("takes")
        prices = {"bare own": 0, "renew own": 1, "renew other": 5, "copy other": 1, "copy own": 9}
        for virtues in (["runs"], ["runs", "whole"], ["placed"], ["fresh"]):
            self.check(library, prices, family, virtues)
        found = self.check(library_of("+ by named", "neg by named"), {"bare own": 0, "renew other": 1, "copy own": 4}, family, ["runs"])
        self.assertEqual((found.price, [found.library.maker_of(sign) for sign in found.library]), (0, ["bare own", "bare own"]))
        found = self.check(library_of("+ by named", "neg by named"), {"bare own": 1, "renew other": 0, "copy own": 4}, family, ["runs"])
        self.assertEqual([found.library.maker_of(sign) for sign in found.library], ["bare own", "bare own"])

    def test_the_root_hook_without_constructor(self):
        library = library_of("+ by hook", "neg by hook", "- by named", hook="bare")
        for prices in ({"hook": 1, "renew own": 0, "renew other": 2}, {"hook": 0, "renew own": 1, "copy own": 2, "named": 3}):
            for virtues in (["runs"], ["carried"], ["whole"], ["runs", "fresh"]):
                for words in ([], ["takes"], ["takes", "fixes"], ["keeps", "copy"], ["takes", "call", "renew"]):
                    self.check(library, prices, Family(words), virtues)

    def test_a_hook_that_spoils_what_another_maker_reads(self):
        prices = {"hook": 0, "renew deeper": 1, "copy own": 3, "copy deeper": 5}
        family = Family.of("takes")
        # Alone, each of the cheapest two is served; the second one reads what the first one leaves out.
        found = self.check(library_of("+ by named", "neg by named", hook="bare"), prices, family, ["runs", "deep"])
        self.assertEqual([found.library.maker_of(sign) for sign in found.library], ["renew deeper", "copy own"])
        found = self.check(library_of("+ by named", "neg by named", hook="renew"), prices, family, ["runs", "deep"])
        self.assertEqual([found.library.maker_of(sign) for sign in found.library], ["renew deeper", "hook"])
        bare = {"bare own": 0, "renew deeper": 1, "copy own": 3, "copy deeper": 5, "call own": 2}
        self.check(library_of("+ by named", "neg by named", "make zero by named"), bare, family, ["runs", "deep"])

    def test_prices(self):
        library = library_of("+ by named", "neg by named")
        # The maker that stands there has no price.
        self.assertIsNone(cheapest(library, {}, Family([]), []))
        self.assertIsNone(cheapest(library, {"call other": 1}, Family([]), []))
        self.assertIsNone(cheapest(library, {"renew own": 1}, ALL, ["alike", "deep"]))
        found = self.check(library, {"named": 0}, ALL, [])
        self.assertEqual((found.price, found.library), (0, library))
        huge = self.check(library, {"named": 10 ** 9, "call own": 10 ** 9}, Family([]), ["alike"])
        self.assertEqual((huge.price, huge.library.maker_of("+")), (2 * 10 ** 9, "call own"))
        equal = self.check(library, {maker: 7 for maker in EVERY}, Family([]), ["deep"])
        self.assertEqual(equal.price, 14)
        again = cheapest(library, {maker: 7 for maker in EVERY}, Family([]), ["deep"])
        self.assertEqual((again.library, again.price), (equal.library, equal.price))

    def test_makers_of_no_operation_mean_nothing(self):
        library = library_of("make zero by named", "neg by named")
        prices = {"call deeper": 0, "hook": 0, "copy other": 0, "named": 5, "call own": 6}
        found = self.check(library, prices, Family([]), ["alike"])
        self.assertEqual(found.price, 12)
        self.assertIsNone(cheapest(library, {"hook": 1, "call common": 0}, ALL, []))

    def test_the_hook_line_stays(self):
        found = self.check(library_of("neg by hook", hook="bare"), {"call own": 1}, Family([]), ["runs"])
        self.assertEqual((found.library.root_hook, found.library.maker_of("neg")), ("bare", "call own"))

    def test_no_choice_serves(self):
        self.assertIsNone(cheapest(pair_of_three(), {maker: 1 for maker in EVERY}, ALL, list(VIRTUES)))

    def test_bad_makers(self):
        for key in ("", "call", "named own", "own", "bare", "bare other", "copy common", "Hook", "renew common", "x" * 3000, "call  own"):
            for library in (pair_of_three(), pair()):
                with self.assertRaises(BadMaker) as caught:
                    cheapest(library, {"named": 1, key: 2, "~": 3}, ALL, ["runs"])
                self.assertEqual(caught.exception.maker, key)
                with self.assertRaises(BadVirtue) as caught:
                    cheapest(library, {key: 2}, ALL, ["nope"])
                self.assertEqual(caught.exception.word, "nope")
        with self.assertRaises(BadMaker) as caught:
            cheapest(pair(), {"d": 1, "named": 2, "b": 3, "c": 4}, ALL, [])
        self.assertEqual(caught.exception.maker, "b")

    def test_too_many_operations(self):
        with self.assertRaises(TooMany) as caught:
            cheapest(pair(), {"named": 1}, ALL, ["runs"])
        self.assertEqual(caught.exception.what, "operations")
        self.assertIsNotNone(cheapest(pair_of_three(), {"named": 1}, ALL, []))

    def test_by_names(self):
        found = cheapest(virtues=["alike"], family=Family([]), prices={"call own": 2}, library=pair_of_three())
        self.assertEqual(found.price, 6)


def pair_of_three():
    return library_of("+ changes x by named", "neg by named", "make zero by named", hook="call")


if __name__ == "__main__":
    unittest.main()
