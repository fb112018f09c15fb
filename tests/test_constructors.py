"""Constructors (point 9): by position and by names."""

import itertools
import unittest

from heirsback.errors import Lacking, NoClass, Surplus, Unknown
from heirsback.library import Library
from heirsback.values import Value, by_names, by_position
from heirsback.world import World
from samples import OTHER_VALUES, pair_world

HUGE = 10 ** 30 - 1
TREE = (
    "heir Named of Pair", "takes tag 7", "ties y to x",
    "heir Loud of Named", "keeps echo of tag", "takes more 0",
    "heir Plain of Pair", "needs id", "fixes x 0", "takes late 999",
)
CHAIN = Library.read("library Tri\nneeds x\nneeds y\nneeds z\nkeeps size of z\nkeeps wide of size\npos by named")
NO_NAMES = ("Nam", "pair", "Pair ", "x", *OTHER_VALUES, ["Pair"], ("Pair",))


def tree():
    return pair_world(*TREE)


def of_chain(*lines):
    return World.of(CHAIN, "heir A of Tri", *lines)


class ByPosition(unittest.TestCase):
    def check(self, world, name, told, fields):
        value = by_position(world, name, *told)
        self.assertIs(value.__class__, Value)
        self.assertEqual(value.name, name)
        self.assertEqual(value.numbers(), fields)
        self.assertEqual(list(value.numbers()), world.fields(name))
        self.assertEqual(value.state, (name, (), ()))
        self.assertTrue(value)

    def refused(self, world, name, told, error, **fields):
        with self.assertRaises(error) as caught:
            by_position(world, name, *told)
        self.assertEqual(vars(caught.exception), {"name": name, **fields})

    def test_the_root(self):
        self.check(tree(), "Pair", (3, 4), {"x": 3, "y": 4, "size": 3})

    def test_defaults(self):
        self.check(tree(), "Named", (3,), {"x": 3, "y": 3, "size": 3, "tag": 7})
        self.check(tree(), "Named", (3, 4), {"x": 3, "y": 3, "size": 3, "tag": 4})
        self.check(tree(), "Loud", (3,), {"x": 3, "y": 3, "size": 3, "tag": 7, "echo": 7, "more": 0})
        self.check(tree(), "Loud", (3, 4), {"x": 3, "y": 3, "size": 3, "tag": 4, "echo": 4, "more": 0})
        self.check(tree(), "Loud", (3, 4, 5), {"x": 3, "y": 3, "size": 3, "tag": 4, "echo": 4, "more": 5})

    def test_fixed(self):
        self.check(tree(), "Plain", (3, 4), {"x": 0, "y": 3, "size": 0, "id": 4, "late": 999})
        self.check(tree(), "Plain", (3, 4, 5), {"x": 0, "y": 3, "size": 0, "id": 4, "late": 5})

    def test_numbers_may_be_zero_or_huge(self):
        for number in (0, 1, HUGE, -HUGE, -1):
            self.check(tree(), "Pair", (number, number), {"x": number, "y": number, "size": number})
            self.check(tree(), "Named", (1, number), {"x": 1, "y": 1, "size": 1, "tag": number})

    def test_surplus(self):
        self.refused(tree(), "Pair", (1, 2, 3), Surplus, many=2)
        self.refused(tree(), "Named", (1, 2, 3), Surplus, many=2)
        self.refused(tree(), "Loud", [1] * 4, Surplus, many=3)
        self.refused(tree(), "Plain", [1] * 100, Surplus, many=3)

    def test_surplus_of_a_class_without_parameters(self):
        world = of_chain("fixes x 1", "fixes y 2", "fixes z 3")
        self.refused(world, "A", (1,), Surplus, many=0)
        self.check(world, "A", (), {"x": 1, "y": 2, "z": 3, "size": 3, "wide": 3})

    def test_lacking(self):
        self.refused(tree(), "Pair", (), Lacking, field="x")
        self.refused(tree(), "Pair", (1,), Lacking, field="y")
        self.refused(tree(), "Named", (), Lacking, field="x")
        self.refused(tree(), "Plain", (), Lacking, field="y")
        self.refused(tree(), "Plain", (1,), Lacking, field="id")

    def test_no_class(self):
        for thing in NO_NAMES:
            for told in ((), (1, 2), (1,) * 9):
                with self.subTest(thing=thing, told=told):
                    with self.assertRaises(NoClass) as caught:
                        by_position(tree(), thing, *told)
                    self.assertEqual(caught.exception.name, thing)

    def test_world_and_name_by_name(self):
        world = of_chain("fixes x 1", "fixes y 2", "fixes z 3")
        self.assertEqual(by_position(world=world, name="A"), by_position(world, "A"))


class ByNames(unittest.TestCase):
    def refused(self, world, name, told, error, field):
        with self.assertRaises(error) as caught:
            by_names(world, name, **told)
        self.assertEqual(vars(caught.exception), {"name": name, "field": field})

    def test_the_same_as_by_position(self):
        world = tree()
        for name in world.names():
            fields = [field for field, _ in world.parameters(name)]
            numbers = [10 * at for at in range(len(fields))]
            given = list(zip(fields, numbers))
            for told in itertools.permutations(given):
                value = by_names(world, name, **dict(told))
                self.assertEqual(value, by_position(world, name, *numbers))
                self.assertIs(value.__class__, Value)

    def test_defaults_that_are_passed_over(self):
        value = by_names(tree(), "Loud", more=5, x=1)
        self.assertEqual(value.numbers(), {"x": 1, "y": 1, "size": 1, "tag": 7, "echo": 7, "more": 5})

    def test_unknown(self):
        self.refused(tree(), "Pair", {"x": 1, "y": 2, "z": 3}, Unknown, "z")
        self.refused(tree(), "Pair", {"z": 3}, Unknown, "z")
        self.refused(tree(), "Pair", {"size": 3, "x": 1, "y": 2}, Unknown, "size")
        self.refused(tree(), "Pair", {"x": 1, "y": 2, "tag": 3}, Unknown, "tag")

    def test_what_is_no_parameter_any_more_is_unknown(self):
        self.refused(tree(), "Named", {"x": 1, "y": 2}, Unknown, "y")
        self.refused(tree(), "Plain", {"x": 1, "y": 2, "id": 3}, Unknown, "x")
        self.refused(tree(), "Loud", {"x": 1, "echo": 2}, Unknown, "echo")

    def test_the_first_unknown_as_they_are_passed(self):
        self.refused(tree(), "Pair", {"b": 1, "x": 1, "a": 1}, Unknown, "b")
        self.refused(tree(), "Pair", {"x": 1, "a": 1, "y": 1, "b": 1}, Unknown, "a")
        self.refused(tree(), "Plain", {"size": 1, "x": 1}, Unknown, "size")
        self.refused(tree(), "Plain", {"x": 1, "size": 1}, Unknown, "x")

    def test_unknown_comes_before_lacking(self):
        self.refused(tree(), "Pair", {"x": 1, "a": 1}, Unknown, "a")

    def test_the_first_lacking_in_the_order_of_the_parameters(self):
        self.refused(tree(), "Pair", {}, Lacking, "x")
        self.refused(tree(), "Pair", {"y": 1}, Lacking, "x")
        self.refused(tree(), "Pair", {"x": 1}, Lacking, "y")
        self.refused(tree(), "Plain", {"id": 1}, Lacking, "y")
        self.refused(tree(), "Plain", {"y": 1, "late": 2}, Lacking, "id")

    def test_no_class(self):
        for thing in NO_NAMES:
            for told in ({}, {"x": 1, "y": 2}, {"a": 1}):
                with self.subTest(thing=thing, told=told):
                    with self.assertRaises(NoClass) as caught:
                        by_names(tree(), thing, **told)
                    self.assertEqual(caught.exception.name, thing)

    def test_fields_called_like_what_stands_in_the_program(self):
        library = Library.read("library A\nneeds numbers\nneeds self\nneeds cells\npos by named")
        world = World.of(library, "heir B of A", "takes field 5", "takes class 6", "takes given 7")
        value = by_names(world, "B", self=1, numbers=2, cells=3, **{"class": 4})
        self.assertEqual(value.numbers(), {"numbers": 2, "self": 1, "cells": 3, "field": 5, "class": 4, "given": 7})

    def test_world_and_name_by_name(self):
        self.assertEqual(by_names(y=2, name="Pair", x=1, world=tree()), by_position(tree(), "Pair", 1, 2))

    def test_the_dict_that_is_passed(self):
        told = {"y": 2, "x": 1}
        value = by_names(tree(), "Pair", **told)
        told["x"] = 5
        self.assertEqual(value.numbers(), {"x": 1, "y": 2, "size": 1})
        self.assertEqual(list(told), ["y", "x"])


class FixedTiedAndKept(unittest.TestCase):
    def check(self, world, name, told, *numbers):
        self.assertEqual(list(by_position(world, name, *told).numbers().values()), list(numbers))

    def test_kept_fields_of_the_root(self):
        self.check(of_chain(), "Tri", (1, 2, 3), 1, 2, 3, 3, 3)
        self.check(of_chain("fixes z 9"), "A", (1, 2), 1, 2, 9, 9, 9)
        self.check(of_chain("ties z to x"), "A", (1, 2), 1, 2, 1, 1, 1)

    def test_ties_in_a_chain(self):
        self.check(of_chain("ties x to y", "ties y to z"), "A", (3,), 3, 3, 3, 3, 3)
        self.check(of_chain("ties z to y", "ties y to x"), "A", (3,), 3, 3, 3, 3, 3)
        self.check(of_chain("ties x to y", "ties y to z", "fixes z 8"), "A", (), 8, 8, 8, 8, 8)

    def test_two_ties_to_one(self):
        self.check(of_chain("ties x to z", "ties y to z"), "A", (3,), 3, 3, 3, 3, 3)
        self.check(of_chain("ties x to z", "ties y to z", "fixes z 4"), "A", (), 4, 4, 4, 4, 4)

    def test_a_tie_to_what_is_fixed_below(self):
        world = of_chain("ties x to z", "heir B of A", "fixes z 6", "heir C of B", "fixes y 1")
        self.check(world, "A", (2, 3), 3, 2, 3, 3, 3)
        self.check(world, "B", (2,), 6, 2, 6, 6, 6)
        self.check(world, "C", (), 6, 1, 6, 6, 6)

    def test_a_tie_to_what_is_tied_below(self):
        world = of_chain("ties x to z", "heir B of A", "ties z to y", "heir C of B", "fixes y 5")
        self.check(world, "A", (2, 3), 3, 2, 3, 3, 3)
        self.check(world, "B", (2,), 2, 2, 2, 2, 2)
        self.check(world, "C", (), 5, 5, 5, 5, 5)

    def test_kept_fields_of_heirs_in_chains(self):
        world = of_chain("takes t 4", "keeps k of t", "keeps m of k", "keeps w of wide", "heir B of A", "keeps n of m",
                         "ties z to x")
        self.check(world, "A", (1, 2, 3), 1, 2, 3, 3, 3, 4, 4, 4, 3)
        self.check(world, "A", (1, 2, 3, 9), 1, 2, 3, 3, 3, 9, 9, 9, 3)
        self.check(world, "B", (1, 2), 1, 2, 1, 1, 1, 4, 4, 4, 1, 4)

    def test_a_kept_field_of_what_is_fixed_later(self):
        world = of_chain("keeps k of x", "fixes x 5", "heir B of A", "keeps n of k", "fixes y 0")
        self.check(world, "A", (2, 3), 5, 2, 3, 3, 3, 5)
        self.check(world, "B", (3,), 5, 0, 3, 3, 3, 5, 5)

    def test_heirs_beside_do_not_matter(self):
        world = of_chain("fixes x 5", "heir B of Tri", "ties x to y", "heir C of B")
        self.check(world, "A", (1, 2), 5, 1, 2, 2, 2)
        self.check(world, "B", (1, 2), 1, 1, 2, 2, 2)
        self.check(world, "C", (1, 2), 1, 1, 2, 2, 2)
        self.check(world, "Tri", (1, 2, 3), 1, 2, 3, 3, 3)


class BelowAPlace(unittest.TestCase):
    """What fact 29 tells of calls with the row of the parameters of a class above."""

    def test_each_mix_of_members(self):
        members = ("fixes x 1", "ties y to z", "needs n", "needs m", "takes t 5", "takes u 6")
        for many in range(7):
            for chosen in itertools.combinations(members, many):
                world = of_chain(*chosen)
                lost = sum(line[0] == "f" or line.startswith("ties") for line in chosen)
                needed, taken = (sum(line.startswith(word) for line in chosen) for word in ("needs", "takes"))
                with self.subTest(chosen=chosen):
                    self.by_position(world, lost, needed, taken)
                    self.by_names(world, lost, needed)

    def by_position(self, world, lost, needed, taken):
        if needed + taken < lost:
            self.assertRaises(Surplus, by_position, world, "A", 1, 2, 3)
        elif needed > lost:
            self.assertRaises(Lacking, by_position, world, "A", 1, 2, 3)
        else:
            value = by_position(world, "A", 1, 2, 3)
            if lost:
                self.assertEqual(value.numbers()[world.added("A")[0]], 4 - lost)

    def by_names(self, world, lost, needed):
        if lost:
            self.assertRaises(Unknown, by_names, world, "A", x=1, y=2, z=3)
        elif needed:
            self.assertRaises(Lacking, by_names, world, "A", x=1, y=2, z=3)
        else:
            self.assertEqual(list(by_names(world, "A", x=1, y=2, z=3).numbers().values())[:5], [1, 2, 3, 3, 3])


if __name__ == "__main__":
    unittest.main()
