"""Outcomes and virtues of steps (points 15 and 16), and what a step tells."""

import itertools
import unittest

from heirsback.library import Library
from heirsback.steps import request, step
from heirsback.values import Value, by_position
from heirsback.virtues import VIRTUES
from samples import OTHER_VALUES
from step_samples import HEIRS, made, valued, world_of


class ASecondReading(unittest.TestCase):
    """Each virtue, decided again from what the step tells, as point 16 says it."""

    def lacks(self, world, sign, operands, asked, found):
        name, fates = found.value.name, found.fates()
        classes = [operand.name for operand in operands] or [asked]
        below = [one for one in classes if all(world.belongs(one, other) for other in classes)]
        lacks = []
        if len(set(classes)) == 1 and name != classes[0]:
            lacks.append("alike")
        if below and name not in below:
            lacks.append("deep")
        if [field for field in world.fields(name) if field not in found.value]:
            lacks.append("whole")
        wrong = [field for field in world.library.changed(sign) if fates.get(field) != ("new", field)]
        wrong += [field for field, _ in world.parameters(name) if field in fates and fates[field][1] != field]
        if wrong:
            lacks.append("placed")
        for field in world.added(name):
            if any(field in operand for operand in operands) and fates.get(field) not in (("left", field), ("right", field)):
                lacks.append("carried")
                break
        if found.value.stale:
            lacks.append("fresh")
        return tuple(lacks)

    def check(self, world, sign, operands, asked, found):
        if found.value is None:
            self.assertIn(found.outcome, [("fails", reason) for reason in ("missing", "surplus", "lacking", "unknown")])
            self.assertEqual(found.fates(), {})
            lacks = ("runs",)
        else:
            lacks = self.lacks(world, sign, operands, asked, found)
            self.assertEqual(found.outcome, ("makes", lacks))
            self.assertEqual(set(found.fates()), set(found.value.numbers()))
        self.assertEqual([virtue for virtue in VIRTUES if virtue not in found], list(lacks))
        self.assertEqual(bool(found), "runs" in found)
        if "alike" in lacks:
            self.assertIn("deep", lacks)

    def test_each_maker_on_each_two_classes(self):
        heirs = (*HEIRS, "heir Odd of Low", "fixes x 3", "keeps k of tag", "takes late 4", "heir Last of Odd", "hook call")
        for changes in ("", " changes x", " changes y", " changes x y"):
            for maker in Library.makers(2):
                world = world_of(f"+{changes} by {maker}", hook="renew", heirs=heirs)
                values = self.values(world)
                for left, right in itertools.product(values, values):
                    self.check(world, "+", (left, right), None, step(world, "+", left, right))
            for maker in Library.makers(1):
                world = world_of(f"neg{changes} by {maker}", hook="bare", heirs=heirs)
                for value in self.values(world):
                    self.check(world, "neg", (value,), None, step(world, "neg", value))
        for maker in Library.makers(0):
            world = world_of(f"make zero by {maker}", heirs=heirs)
            for name in world.names():
                self.check(world, "zero", (), name, request(world, "zero", name))

    def values(self, world):
        """Of each class a value as the constructor makes it, one with the root's fields only, and one with stale fields."""
        root = len(world.fields("Pair"))
        found = []
        for name in world.names():
            found.append(by_position(world, name, *range(2001, 2001 + len(world.parameters(name)))))
            fields = world.fields(name)
            found.append(Value(world, name, {field: 1 for field in fields[:root]}))
            found.append(Value(world, name, {field: at for at, field in enumerate(fields)}))
        return found


class EachVirtue(unittest.TestCase):
    """A step that lacks one virtue alone, as far as this may be, and one beside it that has it."""

    def check(self, found, *lacks):
        self.assertEqual(found.outcome, ("makes", lacks))
        for virtue in VIRTUES:
            self.assertIs(virtue in found, virtue not in lacks)
        self.assertIs(bool(found), True)

    def test_runs(self):
        world = world_of("neg by call own")
        need, low = made(world, "Need", "Low")
        found = step(world, "neg", need)
        self.assertEqual(found.outcome, ("fails", "lacking"))
        self.assertEqual([virtue for virtue in VIRTUES if virtue not in found], ["runs"])
        self.assertIs(bool(found), False)
        self.assertIs("runs" in step(world, "neg", low), True)

    def test_alike(self):
        world = world_of("+ by named", "make zero by named")
        root, low, side = made(world, "Pair", "Low", "Side")
        self.check(step(world, "+", low, low), "alike", "deep")
        self.check(step(world, "+", low, side))
        self.check(step(world, "+", root, root))
        self.check(request(world, "zero", "Low"), "alike", "deep")
        self.check(request(world, "zero", "Pair"))

    def test_deep(self):
        world = world_of("+ by copy own", "- by copy other")
        root, low, deep, side = made(world, "Pair", "Low", "Deep", "Side")
        self.check(step(world, "+", root, low), "deep")
        self.check(step(world, "+", low, deep), "deep")
        self.check(step(world, "+", deep, low))
        self.check(step(world, "-", low, deep))
        self.check(step(world, "-", deep, root), "deep")
        self.check(step(world, "+", low, side))
        self.check(step(world, "+", side, low))

    def test_whole(self):
        world = world_of("make zero by bare own", "neg by copy own")
        self.check(request(world, "zero", "Low"), "whole")
        self.check(request(world, "zero", "Pair"))
        self.check(step(world, "neg", valued(world, "Low", 1, 2, 1, None)), "whole")

    def test_placed(self):
        heirs = ("heir A of Pair", "fixes x 5", "hook call", "heir B of Pair", "fixes x 5", "takes t 1")
        world = world_of("neg changes x by hook", "pos by call own", "make zero by call own", hook="call", heirs=heirs)
        self.check(step(world, "neg", valued(world, "A", 5, 2, 5)), "placed")
        self.check(step(world, "neg", valued(world, "Pair", 5, 2, 5)))
        self.check(request(world, "zero", "B"), "placed")
        self.check(step(world, "pos", valued(world, "B", 5, 2, 5, None)), "placed")
        self.check(step(world, "pos", valued(world, "B", 5, 2, 5, 3)), "placed", "carried")

    def test_carried(self):
        world = world_of("+ by call own", "- by call other", "neg by renew own")
        low, deep, side = made(world, "Low", "Deep", "Side")
        without = valued(world, "Low", 1, 2, 1, None)
        self.check(step(world, "+", low, side), "carried")
        self.check(step(world, "+", without, side))
        self.check(step(world, "-", side, without))
        self.check(step(world, "-", side, low), "carried")
        self.check(step(world, "+", without, low), "carried")
        self.check(step(world, "+", low, without), "carried")
        self.check(step(world, "+", without, deep), "deep", "carried")
        self.check(step(world, "neg", deep))

    def test_carried_asks_for_added_parameters_only(self):
        world = world_of("neg changes y by call own", "pos changes y by bare own")
        side, = made(world, "Side")
        self.check(step(world, "neg", side))
        self.check(step(world, "pos", side), "whole")

    def test_fresh(self):
        world = world_of("neg changes x by copy own", "pos changes y by copy own")
        root, side = made(world, "Pair", "Side")
        self.check(step(world, "neg", root), "fresh")
        self.check(step(world, "pos", root))
        self.check(step(world, "pos", side), "fresh")


class WhatAStepTells(unittest.TestCase):
    def test_attributes(self):
        world = world_of("+ changes y by copy other", "neg by call own")
        low, need = made(world, "Low", "Need")
        found = step(world, "+", low, low)
        self.assertLessEqual({"sign", "value", "outcome", "new"}, set(vars(found)))
        self.assertEqual((found.sign, found.new, found.outcome), ("+", (1000,), ("makes", ())))
        self.assertEqual(found.value, valued(world, "Low", 1, 1000, 1, 3))
        found = step(world, "neg", need)
        self.assertLessEqual({"sign", "value", "outcome", "new"}, set(vars(found)))
        self.assertEqual((found.sign, found.new, found.outcome), ("neg", (), ("fails", "lacking")))
        self.assertIs(found.value, None)

    def test_kinds(self):
        world = world_of("+ changes y by copy other")
        low, = made(world, "Low")
        found = step(world, "+", low, low)
        for thing in (found.new, found.outcome, found.outcome[1], *found.fates().values()):
            self.assertIs(thing.__class__, tuple)
        self.assertIs(found.value.__class__, Value)
        self.assertIs(found.fates().__class__, dict)

    def test_no_virtues(self):
        world = world_of("+ by copy own", "neg by call own")
        low, need = made(world, "Low", "Need")
        for found in (step(world, "+", low, low), step(world, "neg", need)):
            for thing in ("run", "Runs", "runs ", "lacking", "makes", "fails", *OTHER_VALUES, ["fresh"], ("fresh",), VIRTUES):
                with self.subTest(thing=thing):
                    self.assertIs(thing in found, False)

    def test_fates_are_new_each_time(self):
        world = world_of("+ by copy own")
        low, = made(world, "Low")
        found = step(world, "+", low, low)
        first = found.fates()
        first.clear()
        first["x"] = ("new", "x")
        self.assertEqual(found.fates(), {field: ("left", field) for field in ("x", "y", "size", "tag")})
        found.value.numbers().clear()
        self.assertEqual(found.value, low)

    def test_equal_calls_tell_the_same(self):
        world = world_of("+ changes x by renew deeper")
        low, deep = made(world, "Low", "Deep")
        one, other = (step(world, "+", low, deep, start=5) for _ in range(2))
        self.assertEqual((one.value, one.fates(), one.outcome, one.new), (other.value, other.fates(), other.outcome, other.new))

    def test_operands_of_an_equal_world(self):
        one, other = world_of("+ by copy own"), world_of("+ by copy own")
        left, right = made(one, "Low")[0], made(other, "Deep")[0]
        self.assertEqual(step(world_of("+ by copy own"), "+", left, right).value, left)

    def test_results_are_operands(self):
        world = world_of("+ changes x by bare own", "neg changes y by copy own", "pos by renew own", "make zero by named")
        low, = made(world, "Low")
        found = step(world, "+", low, request(world, "zero", "Low").value, start=1002)
        self.assertEqual(found.value.state, ("Low", ("tag",), ()))
        found = step(world, "neg", found.value, start=1003)
        self.assertEqual(found.value.numbers(), {"x": 1002, "y": 1003, "size": 1002})
        self.assertEqual(step(world, "pos", found.value).outcome, ("fails", "missing"))


if __name__ == "__main__":
    unittest.main()
