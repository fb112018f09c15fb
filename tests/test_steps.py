"""Steps (points 11 to 14): each maker, on operands of each kind of class."""

import unittest

from heirsback.library import Library
from heirsback.steps import Step, request, step
from heirsback.world import World
from step_samples import made, told, valued, world_of


class Cases(unittest.TestCase):
    def check(self, world, sign, cases):
        """Each case: the operands' classes, and what is told of the step."""
        for names, expected in cases.items():
            with self.subTest(maker=world.library.maker_of(sign), names=names):
                operands = made(world, *names.split())
                before = [(operand.name, operand.numbers(), operand.state) for operand in operands]
                found = step(world, sign, *operands)
                self.assertEqual(told(found), expected)
                self.assertIs(found.__class__, Step)
                self.assertEqual([(operand.name, operand.numbers(), operand.state) for operand in operands], before)


class BinaryOwn(Cases):
    """`+` changes x, with the target `own`."""

    def test_named(self):
        self.check(world_of("+ changes x by named"), "+", {
            "Pair Pair": ("Pair", "x=1000 new x, y=92 left y, size=1000 new x", ""),
            "Pair Low": ("Pair", "x=1000 new x, y=92 left y, size=1000 new x", "deep"),
            "Low Low": ("Pair", "x=1000 new x, y=2 left y, size=1000 new x", "alike deep"),
            "Low Side": ("Pair", "x=1000 new x, y=2 left y, size=1000 new x", ""),
            "Tied Fixed": ("Pair", "x=1000 new x, y=41 left y, size=1000 new x", ""),
            "Fixed Tied": ("Pair", "x=1000 new x, y=52 left y, size=1000 new x", ""),
        })

    def test_call(self):
        self.check(world_of("+ changes x by call own"), "+", {
            "Pair Low": ("Pair", "x=1000 new x, y=92 left y, size=1000 new x", "deep"),
            "Low Pair": ("Low", "x=1000 new x, y=2 left y, size=1000 new x, tag=7 default tag", "carried"),
            "Low Low": ("Low", "x=1000 new x, y=2 left y, size=1000 new x, tag=7 default tag", "carried"),
            "Low Deep": ("Low", "x=1000 new x, y=2 left y, size=1000 new x, tag=7 default tag", "deep carried"),
            "Side Low": ("Side", "x=1000 new x, y=22 left y, size=1000 new x, echo=22 left y", ""),
            "Need Low": "lacking",
            "Tied Tied": "surplus",
            "Fixed Low": "surplus",
        })

    def test_names(self):
        self.check(world_of("+ changes x by names own"), "+", {
            "Pair Low": ("Pair", "x=1000 new x, y=92 left y, size=1000 new x", "deep"),
            "Deep Low": ("Deep", "x=1000 new x, y=12 left y, size=1000 new x, tag=7 default tag, more=8 default more", "carried"),
            "Side Pair": ("Side", "x=1000 new x, y=22 left y, size=1000 new x, echo=22 left y", ""),
            "Need Low": "lacking",
            "Tied Tied": "unknown",
            "Fixed Low": "unknown",
        })

    def test_renew(self):
        self.check(world_of("+ changes x by renew own"), "+", {
            "Pair Low": ("Pair", "x=1000 new x, y=92 left y, size=1000 new x", "deep"),
            "Low Pair": ("Low", "x=1000 new x, y=2 left y, size=1000 new x, tag=3 left tag", ""),
            "Low Deep": ("Low", "x=1000 new x, y=2 left y, size=1000 new x, tag=3 left tag", "deep"),
            "Side Low": ("Side", "x=1000 new x, y=22 left y, size=1000 new x, echo=22 left y", ""),
            "Need Low": ("Need", "x=1000 new x, y=32 left y, size=1000 new x, id=33 left id", ""),
            "Tied Fixed": ("Tied", "x=1000 new x, y=1000 new x, size=1000 new x", ""),
            "Fixed Low": "unknown",
        })

    def test_copy(self):
        self.check(world_of("+ changes x by copy own"), "+", {
            "Pair Low": ("Pair", "x=1000 new x, y=92 left y, size=91 left size", "deep fresh"),
            "Low Deep": ("Low", "x=1000 new x, y=2 left y, size=1 left size, tag=3 left tag", "deep fresh"),
            "Tied Low": ("Tied", "x=1000 new x, y=41 left y, size=41 left size", "fresh"),
            "Fixed Low": ("Fixed", "x=1000 new x, y=52 left y, size=5 left size", "fresh"),
            "Side Low": ("Side", "x=1000 new x, y=22 left y, size=21 left size, echo=22 left echo", "fresh"),
        })

    def test_bare(self):
        self.check(world_of("+ changes x by bare own"), "+", {
            "Pair Low": ("Pair", "x=1000 new x, y=92 left y, size=1000 new x", "deep"),
            "Low Low": ("Low", "x=1000 new x, y=2 left y, size=1000 new x", "whole carried"),
            "Side Low": ("Side", "x=1000 new x, y=22 left y, size=1000 new x", "whole"),
            "Need Deep": ("Need", "x=1000 new x, y=32 left y, size=1000 new x", "whole carried"),
            "Tied Tied": ("Tied", "x=1000 new x, y=41 left y, size=1000 new x", "fresh"),
            "Fixed Low": ("Fixed", "x=1000 new x, y=52 left y, size=1000 new x", "fresh"),
        })

    def test_bare_beside_an_operand_with_a_field_of_that_name(self):
        self.check(world_of("+ by bare own"), "+", {
            "Low Deep": ("Low", "x=1 left x, y=2 left y, size=1 left x", "deep whole carried"),
            "Deep Deep": ("Deep", "x=11 left x, y=12 left y, size=11 left x", "whole carried"),
            "Pair Deep": ("Pair", "x=91 left x, y=92 left y, size=91 left x", "deep"),
        })


class BinaryOther(Cases):
    def test_call(self):
        self.check(world_of("+ changes x by call other"), "+", {
            "Low Pair": ("Pair", "x=1000 new x, y=92 right y, size=1000 new x", "deep"),
            "Low Deep": ("Deep", "x=1000 new x, y=12 right y, size=1000 new x, tag=7 default tag, more=8 default more", "carried"),
            "Low Side": ("Side", "x=1000 new x, y=22 right y, size=1000 new x, echo=22 right y", ""),
            "Low Low": ("Low", "x=1000 new x, y=2 right y, size=1000 new x, tag=7 default tag", "carried"),
            "Low Need": "lacking",
            "Low Tied": "surplus",
        })

    def test_names(self):
        self.check(world_of("+ changes x by names other"), "+", {
            "Tied Pair": ("Pair", "x=1000 new x, y=92 right y, size=1000 new x", "deep"),
            "Deep Low": ("Low", "x=1000 new x, y=2 right y, size=1000 new x, tag=7 default tag", "deep carried"),
            "Low Need": "lacking",
            "Low Tied": "unknown",
        })

    def test_renew(self):
        self.check(world_of("+ changes x by renew other"), "+", {
            "Low Pair": ("Pair", "x=1000 new x, y=92 right y, size=1000 new x", "deep"),
            "Low Deep": ("Deep", "x=1000 new x, y=12 right y, size=1000 new x, tag=13 right tag, more=14 right more", ""),
            "Low Need": ("Need", "x=1000 new x, y=32 right y, size=1000 new x, id=33 right id", ""),
            "Low Tied": ("Tied", "x=1000 new x, y=1000 new x, size=1000 new x", ""),
            "Low Fixed": "unknown",
        })

    def test_copy(self):
        self.check(world_of("+ changes y by copy other"), "+", {
            "Low Pair": ("Pair", "x=91 right x, y=1000 new y, size=91 right size", "deep"),
            "Low Deep": ("Deep", "x=11 right x, y=1000 new y, size=11 right size, tag=13 right tag, more=14 right more", ""),
            "Deep Low": ("Low", "x=1 right x, y=1000 new y, size=1 right size, tag=3 right tag", "deep"),
            "Low Tied": ("Tied", "x=41 right x, y=1000 new y, size=41 right size", "fresh"),
            "Low Side": ("Side", "x=21 right x, y=1000 new y, size=21 right size, echo=22 right echo", "fresh"),
        })


class BinaryDeeper(Cases):
    def test_call(self):
        deep = "x=1000 new x, y=12 {} y, size=1000 new x, tag=7 default tag, more=8 default more"
        self.check(world_of("+ changes x by call deeper"), "+", {
            "Low Deep": ("Deep", deep.format("right"), "carried"),
            "Deep Low": ("Deep", deep.format("left"), "carried"),
            "Pair Deep": ("Deep", deep.format("right"), "carried"),
            "Deep Pair": ("Deep", deep.format("left"), "carried"),
            "Deep Deep": ("Deep", deep.format("left"), "carried"),
            "Low Side": ("Low", "x=1000 new x, y=2 left y, size=1000 new x, tag=7 default tag", "carried"),
            "Side Low": ("Side", "x=1000 new x, y=22 left y, size=1000 new x, echo=22 left y", ""),
            "Pair Need": "lacking",
            "Need Pair": "lacking",
            "Pair Tied": "surplus",
            "Side Tied": ("Side", "x=1000 new x, y=22 left y, size=1000 new x, echo=22 left y", ""),
        })

    def test_names(self):
        self.check(world_of("+ changes x by names deeper"), "+", {
            "Pair Low": ("Low", "x=1000 new x, y=2 right y, size=1000 new x, tag=7 default tag", "carried"),
            "Pair Tied": "unknown",
            "Tied Pair": "unknown",
            "Need Tied": "lacking",
            "Tied Need": "unknown",
        })

    def test_renew(self):
        deep = "x=1000 new x, y=12 {0} y, size=1000 new x, tag=13 {0} tag, more=14 {0} more"
        self.check(world_of("+ changes x by renew deeper"), "+", {
            "Low Deep": ("Deep", deep.format("right"), ""),
            "Deep Low": ("Deep", deep.format("left"), ""),
            "Deep Side": ("Deep", deep.format("left"), ""),
            "Low Low": ("Low", "x=1000 new x, y=2 left y, size=1000 new x, tag=3 left tag", ""),
            "Pair Fixed": "unknown",
        })

    def test_copy(self):
        deep = "x=1000 new x, y=12 {0} y, size=11 {0} size, tag=13 {0} tag, more=14 {0} more"
        self.check(world_of("+ changes x by copy deeper"), "+", {
            "Low Deep": ("Deep", deep.format("right"), "fresh"),
            "Deep Low": ("Deep", deep.format("left"), "fresh"),
            "Deep Side": ("Deep", deep.format("left"), "fresh"),
            "Side Deep": ("Side", "x=1000 new x, y=22 left y, size=21 left size, echo=22 left echo", "fresh"),
        })

    def test_two_values_of_one_class_are_told_apart_by_their_sides(self):
        world = world_of("+ by copy deeper", "- by copy other")
        left, right = valued(world, "Low", 1, 2, 1, 3), valued(world, "Low", 4, 5, 4, 6)
        self.assertEqual(step(world, "+", left, right).value, left)
        self.assertEqual(step(world, "-", left, right).value, right)


class BinaryCommon(Cases):
    def test_call(self):
        self.check(world_of("+ changes x by call common"), "+", {
            "Low Deep": ("Low", "x=1000 new x, y=2 left y, size=1000 new x, tag=7 default tag", "deep carried"),
            "Deep Low": ("Low", "x=1000 new x, y=12 left y, size=1000 new x, tag=7 default tag", "deep carried"),
            "Low Side": ("Pair", "x=1000 new x, y=2 left y, size=1000 new x", ""),
            "Side Low": ("Pair", "x=1000 new x, y=22 left y, size=1000 new x", ""),
            "Tied Fixed": ("Pair", "x=1000 new x, y=41 left y, size=1000 new x", ""),
            "Pair Deep": ("Pair", "x=1000 new x, y=92 left y, size=1000 new x", "deep"),
            "Deep Deep": ("Deep", "x=1000 new x, y=12 left y, size=1000 new x, tag=7 default tag, more=8 default more", "carried"),
            "Tied Tied": "surplus",
            "Need Need": "lacking",
        })

    def test_names(self):
        self.check(world_of("+ changes y by names common"), "+", {
            "Deep Low": ("Low", "x=11 left x, y=1000 new y, size=11 left x, tag=7 default tag", "deep carried"),
            "Need Tied": ("Pair", "x=31 left x, y=1000 new y, size=31 left x", ""),
            "Tied Tied": "unknown",
            "Need Need": "lacking",
        })


class WhatChanges(Cases):
    def test_nothing(self):
        self.check(world_of("+ by call own"), "+", {
            "Low Pair": ("Low", "x=1 left x, y=2 left y, size=1 left x, tag=7 default tag", "carried"),
        })
        self.check(world_of("+ by renew own"), "+", {
            "Tied Pair": ("Tied", "x=41 left x, y=41 left x, size=41 left x", ""),
            "Fixed Pair": ("Fixed", "x=5 fixed x, y=52 left y, size=5 fixed x", ""),
        })
        self.check(world_of("+ by copy own"), "+", {
            "Fixed Pair": ("Fixed", "x=5 left x, y=52 left y, size=5 left size", ""),
        })

    def test_one(self):
        self.check(world_of("+ changes y by renew own"), "+", {
            "Tied Pair": "unknown",
            "Fixed Pair": ("Fixed", "x=5 fixed x, y=1000 new y, size=5 fixed x", ""),
            "Side Pair": ("Side", "x=21 left x, y=1000 new y, size=21 left x, echo=1000 new y", ""),
        })
        self.check(world_of("+ changes y by copy own"), "+", {
            "Side Pair": ("Side", "x=21 left x, y=1000 new y, size=21 left size, echo=22 left echo", "fresh"),
        })

    def test_two(self):
        self.check(world_of("+ changes x y by call own"), "+", {
            "Low Pair": ("Low", "x=1000 new x, y=1001 new y, size=1000 new x, tag=7 default tag", "carried"),
        })
        self.check(world_of("+ changes x y by renew own"), "+", {
            "Deep Low": ("Deep", "x=1000 new x, y=1001 new y, size=1000 new x, tag=13 left tag, more=14 left more", ""),
            "Tied Low": "unknown",
            "Fixed Low": "unknown",
        })
        self.check(world_of("+ changes x y by copy own"), "+", {
            "Tied Low": ("Tied", "x=1000 new x, y=1001 new y, size=41 left size", "fresh"),
        })

    def test_what_is_passed_by_position_may_land_in_another_field(self):
        heirs = ("heir A of Pair", "fixes x 5", "takes t 6", "heir B of Pair", "ties x to y", "needs n")
        cases = {
            "+ changes x by call own": "x=5 fixed x, y=1000 new x, size=5 fixed x, t=1 left y",
            "+ changes y by call own": "x=5 fixed x, y=5 left x, size=5 fixed x, t=1000 new y",
        }
        for line, fields in cases.items():
            world = world_of(line, heirs=heirs)
            value = valued(world, "A", 5, 1, 5, 2)
            self.assertEqual(told(step(world, "+", value, value)), ("A", fields, "placed carried"))
        world = world_of("+ by call own", heirs=heirs)
        found = step(world, "+", valued(world, "B", 1, 1, 1, 2), valued(world, "A", 5, 1, 5, 2))
        self.assertEqual(told(found), ("B", "x=1 left x, y=1 left x, size=1 left x, n=1 left y", "placed carried"))


class Unary(Cases):
    def test_each_maker(self):
        low = "x=1000 new x, y=2 left y, size=1000 new x"
        cases = {
            "named": {"Pair": ("Pair", "x=1000 new x, y=92 left y, size=1000 new x", ""), "Low": ("Pair", low, "alike deep")},
            "call own": {"Low": ("Low", low + ", tag=7 default tag", "carried"), "Need": "lacking", "Tied": "surplus"},
            "names own": {"Low": ("Low", low + ", tag=7 default tag", "carried"), "Need": "lacking", "Tied": "unknown"},
            "renew own": {
                "Low": ("Low", low + ", tag=3 left tag", ""), "Fixed": "unknown",
                "Need": ("Need", "x=1000 new x, y=32 left y, size=1000 new x, id=33 left id", ""),
            },
            "copy own": {"Low": ("Low", "x=1000 new x, y=2 left y, size=1 left size, tag=3 left tag", "fresh")},
            "bare own": {"Low": ("Low", low, "whole carried"), "Pair": ("Pair", low.replace("2", "92"), "")},
        }
        self.assertEqual(list(cases), Library.makers(1, hook=False))
        for maker, rows in cases.items():
            for sign in ("neg", "pos", "abs", "invert"):
                self.check(world_of(f"{sign} changes x by {maker}"), sign, rows)

    def test_nothing_new(self):
        self.check(world_of("neg by copy own"), "neg", {
            "Low": ("Low", "x=1 left x, y=2 left y, size=1 left size, tag=3 left tag", ""),
            "Tied": ("Tied", "x=41 left x, y=41 left y, size=41 left size", ""),
        })
        self.check(world_of("neg by bare own"), "neg", {
            "Tied": ("Tied", "x=41 left x, y=41 left y, size=41 left x", ""),
            "Side": ("Side", "x=21 left x, y=22 left y, size=21 left x", "whole"),
        })


class Requests(unittest.TestCase):
    def check(self, maker, cases):
        world = world_of(f"make zero by {maker}")
        for name, expected in cases.items():
            with self.subTest(maker=maker, name=name):
                found = request(world, "zero", name)
                self.assertEqual(told(found), expected)
                self.assertIs(found.__class__, Step)
                self.assertEqual((found.sign, found.new), ("zero", (1000, 1001)))

    def test_named(self):
        root = "x=1000 new x, y=1001 new y, size=1000 new x"
        self.check("named", {"Pair": ("Pair", root, ""), "Low": ("Pair", root, "alike deep"), "Tied": ("Pair", root, "alike deep")})

    def test_call(self):
        self.check("call own", {
            "Pair": ("Pair", "x=1000 new x, y=1001 new y, size=1000 new x", ""),
            "Deep": ("Deep", "x=1000 new x, y=1001 new y, size=1000 new x, tag=7 default tag, more=8 default more", ""),
            "Side": ("Side", "x=1000 new x, y=1001 new y, size=1000 new x, echo=1001 new y", ""),
            "Need": "lacking",
            "Tied": "surplus",
            "Fixed": "surplus",
        })

    def test_names(self):
        self.check("names own", {
            "Low": ("Low", "x=1000 new x, y=1001 new y, size=1000 new x, tag=7 default tag", ""),
            "Need": "lacking",
            "Tied": "unknown",
            "Fixed": "unknown",
        })

    def test_bare(self):
        root = "x=1000 new x, y=1001 new y, size=1000 new x"
        self.check("bare own", {
            "Pair": ("Pair", root, ""), "Low": ("Low", root, "whole"), "Side": ("Side", root, "whole"),
            "Tied": ("Tied", root, "fresh"), "Fixed": ("Fixed", root, "fresh"),
        })

    def test_a_number_that_lands_in_another_field(self):
        world = world_of("make zero by call own", heirs=("heir A of Pair", "fixes y 3", "takes t 1"))
        self.assertEqual(told(request(world, "zero", "A")),
                         ("A", "x=1000 new x, y=3 fixed y, size=1000 new x, t=1001 new y", "placed"))


class NewNumbers(unittest.TestCase):
    def test_from_start_on_in_the_order_of_the_parameters(self):
        world = world_of("+ changes x y by call own", "- changes y by copy own", "* by renew own", "make zero by named")
        pair, = made(world, "Pair")
        for start in (0, 1, 5, 1000, 10 ** 29):
            with self.subTest(start=start):
                found = step(world, "+", pair, pair, start=start)
                self.assertEqual(found.new, (start, start + 1))
                self.assertEqual(found.value.numbers(), {"x": start, "y": start + 1, "size": start})
                found = step(world, "-", pair, pair, start=start)
                self.assertEqual((found.new, found.value.numbers()), ((start,), {"x": 91, "y": start, "size": 91}))
                found = step(world, "*", pair, pair, start=start)
                self.assertEqual((found.new, found.value), ((), pair))
                found = request(world, "zero", "Pair", start=start)
                self.assertEqual((found.new, found.value.numbers()), ((start, start + 1), {"x": start, "y": start + 1, "size": start}))

    def test_a_step_that_fails_has_its_new_numbers(self):
        world = world_of("+ changes x y by call own", "make zero by names own")
        tied, = made(world, "Tied")
        found = step(world, "+", tied, tied, start=7)
        self.assertEqual((found.new, found.outcome), ((7, 8), ("fails", "surplus")))
        found = request(world, "zero", "Tied", start=7)
        self.assertEqual((found.new, found.outcome), ((7, 8), ("fails", "unknown")))

    def test_three_parameters(self):
        library = Library.read("library A\nneeds c\nneeds b\nneeds a\n+ changes c a by renew own\nmake one by call own")
        world = World.of(library)
        value = request(world, "one", "A", start=3).value
        self.assertEqual(value.numbers(), {"c": 3, "b": 4, "a": 5})
        found = step(world, "+", value, value, start=0)
        self.assertEqual((found.new, found.value.numbers()), ((0, 1), {"c": 0, "b": 4, "a": 1}))

    def test_numbers_do_not_decide_about_fates(self):
        world = world_of("+ changes x by call own", heirs=("heir A of Pair", "takes t 2", "fixes y 2"))
        value = valued(world, "A", 2, 2, 2, 2)
        self.assertEqual(told(step(world, "+", value, value, start=2)),
                         ("A", "x=2 new x, y=2 fixed y, size=2 new x, t=2 left y", "placed carried"))


class MissingAndStaleFields(unittest.TestCase):
    """Operands as `Value` allows them."""

    def low(self, world, *numbers):
        return valued(world, "Deep", *numbers)

    def test_copies_have_the_same_fields(self):
        world = world_of("+ changes x by copy own", "- by copy other")
        left, right = self.low(world, 1, 2, 0, None, 4), self.low(world, 5, 6, 0, 7, None)
        self.assertEqual(told(step(world, "+", left, right)),
                         ("Deep", "x=1000 new x, y=2 left y, size=0 left size, more=4 left more", "whole carried fresh"))
        self.assertEqual(told(step(world, "-", left, right)),
                         ("Deep", "x=5 right x, y=6 right y, size=0 right size, tag=7 right tag", "whole carried fresh"))

    def test_fields_that_are_not_read_do_not_matter(self):
        for way in ("named", "call own", "names own", "call other", "names common", "bare own"):
            world = world_of(f"+ changes x by {way}")
            found = step(world, "+", self.low(world, 1, 2, 0, None, None), self.low(world, 1, 2, 0, None, None))
            self.assertNotEqual(told(found), "missing")
            self.assertEqual(found.value.numbers()["size"], 1000)

    def test_renew_reads_all_parameters_of_its_class(self):
        world = world_of("+ changes x by renew own", "- changes x by renew other", "* changes x by renew deeper")
        whole, without = self.low(world, 1, 2, 0, 3, 4), self.low(world, 1, 2, 0, 3, None)
        low = valued(world, "Low", 1, 2, 1, None)
        self.assertEqual(told(step(world, "+", without, whole)), "missing")
        self.assertEqual(told(step(world, "+", whole, without))[2], "")
        self.assertEqual(told(step(world, "-", whole, without)), "missing")
        self.assertEqual(told(step(world, "-", without, whole))[2], "")
        self.assertEqual(told(step(world, "*", low, whole))[2], "")
        self.assertEqual(told(step(world, "*", low, without)), "missing")
        self.assertEqual(told(step(world, "*", whole, low))[2], "")
        self.assertEqual(told(step(world, "*", without, whole)), "missing")

    def test_a_missing_kept_field_is_not_read(self):
        world = world_of("+ changes x by renew own", heirs=("heir A of Pair", "keeps k of y"))
        value = valued(world, "A", 1, 2, 3, None)
        self.assertEqual(told(step(world, "+", value, value)), ("A", "x=1000 new x, y=2 left y, size=1000 new x, k=2 left y", ""))

    def test_missing_comes_before_a_call_that_fails(self):
        heirs = ("heir A of Pair", "takes t 1", "fixes x 2")
        world = world_of("+ changes x by renew own", heirs=heirs)
        self.assertEqual(told(step(world, "+", valued(world, "A", 1, 2, 3, None), valued(world, "A", 1, 2, 3, 4))), "missing")
        self.assertEqual(told(step(world, "+", valued(world, "A", 1, 2, 3, 4), valued(world, "A", 1, 2, 3, None))), "unknown")

    def test_a_changed_field_is_not_read(self):
        world = world_of("+ changes x y by renew own", heirs=("heir A of Pair",))
        value = valued(world, "A", 1, 2, 3)
        self.assertEqual(told(step(world, "+", value, value))[2], "")

    def test_stale_numbers_are_read_as_they_are(self):
        world = world_of("+ by call own", "- by copy own", "neg by renew own", "pos by bare own",
                         heirs=("heir A of Pair", "keeps k of x", "ties y to x", "takes t 0"))
        value = valued(world, "A", 1, 2, 3, 4, 5)
        self.assertEqual(value.stale, ("y", "size", "k"))
        self.assertEqual(told(step(world, "+", value, value)),
                         ("A", "x=1 left x, y=1 left x, size=1 left x, k=1 left x, t=2 left y", "placed carried"))
        self.assertEqual(told(step(world, "-", value, value)),
                         ("A", "x=1 left x, y=2 left y, size=3 left size, k=4 left k, t=5 left t", "fresh"))
        self.assertEqual(told(step(world, "neg", value)),
                         ("A", "x=1 left x, y=1 left x, size=1 left x, k=1 left x, t=5 left t", ""))
        self.assertEqual(told(step(world, "pos", value)), ("A", "x=1 left x, y=2 left y, size=1 left x", "whole carried fresh"))

    def test_a_copy_may_heal_and_may_not(self):
        world = world_of("+ changes x by copy own")
        value = valued(world, "Pair", 1, 2, 1000)
        self.assertEqual(told(step(world, "+", value, value))[2], "")
        self.assertEqual(told(step(world, "+", value, value, start=999))[2], "fresh")


class TheExampleOfPoint16(unittest.TestCase):
    def with_members(self, *members):
        library = Library.read("library Pair\nneeds x\nneeds y\nkeeps size of x\nhook call\n+ changes x y by call own\n"
                               "neg changes x by hook\npos by copy own\nmake zero by named")
        world = World.of(library, "heir Named of Pair", *members)
        fields = dict.fromkeys(world.fields("Named"), 1)
        value = valued(world, "Named", *fields.values())
        return world, value

    def test_a_tag(self):
        world, value = self.with_members("takes tag 7")
        found = step(world, "+", value, value)
        self.assertEqual(found.outcome, ("makes", ("carried",)))
        self.assertEqual(found.fates()["tag"], ("default", "tag"))
        self.assertEqual(found.value.numbers()["tag"], 7)
        self.assertEqual(step(world, "pos", value).outcome, ("makes", ()))

    def test_a_kept_field(self):
        world, value = self.with_members("keeps wide of x")
        found = step(world, "+", value, value)
        self.assertEqual((found.outcome, found.fates()["wide"]), (("makes", ()), ("new", "x")))
        found = step(world, "neg", value)
        self.assertEqual((found.outcome, found.fates()["wide"]), (("makes", ()), ("new", "x")))

    def test_a_tie(self):
        world, value = self.with_members("ties y to x")
        self.assertEqual(step(world, "+", value, value).outcome, ("fails", "surplus"))


class Libraries(unittest.TestCase):
    def test_chains_of_kept_fields_in_bare_values(self):
        library = Library.read("library A\nneeds b\nneeds c\nkeeps d of c\nkeeps e of d\n+ changes c by bare own")
        world = World.of(library, "heir H of A", "fixes b 4", "keeps f of e")
        value = valued(world, "H", 4, 2, 2, 2, 2)
        self.assertEqual(told(step(world, "+", value, value)),
                         ("H", "b=4 left b, c=1000 new c, d=1000 new c, e=1000 new c", "whole"))

    def test_nine_signs(self):
        for sign in ("+", "-", "*", "//", "&", "|", "^", "<<", ">>"):
            world = world_of(f"{sign} changes y by renew other")
            low, deep = made(world, "Low", "Deep")
            found = step(world, sign, deep, low)
            self.assertEqual(found.sign, sign)
            self.assertEqual(told(found), ("Low", "x=1 right x, y=1000 new y, size=1 right x, tag=3 right tag", "deep"))


if __name__ == "__main__":
    unittest.main()
