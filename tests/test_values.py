"""Values (point 10): present, missing and stale fields, and the state."""

import itertools
import unittest

from heirsback.errors import BadValue, NoClass
from heirsback.library import Library
from heirsback.values import Value, by_names, by_position
from heirsback.world import World
from samples import OTHER_VALUES, pair, pair_world

HUGE = 10 ** 30 - 1
HEIRS = (
    "heir Named of Pair", "takes tag 7", "ties y to x", "keeps echo of tag", "keeps twice of echo",
    "heir Fixed of Named", "fixes x 5", "takes id 3",
)
WHOLE = {"x": 1, "y": 1, "size": 1, "tag": 2, "echo": 2, "twice": 2}


def named(**numbers):
    """A value of Named; None leaves a field out."""
    changed = {**WHOLE, **numbers}
    return Value(pair_world(*HEIRS), "Named", {field: changed[field] for field in changed if changed[field] is not None})


class Fields(unittest.TestCase):
    def test_what_is_told(self):
        value = Value(pair_world(), "Pair", {"x": 1, "y": 2, "size": 1})
        self.assertEqual(value.name, "Pair")
        self.assertIn("name", vars(value))
        self.assertEqual(value.numbers(), {"x": 1, "y": 2, "size": 1})
        self.assertEqual((value.missing, value.stale, value.state), ((), (), ("Pair", (), ())))
        self.assertTrue(value)

    def test_every_choice_of_the_fields_that_may_be_missing(self):
        more = ("tag", "echo", "twice")
        for many in range(4):
            for absent in itertools.combinations(more, many):
                value = named(**{field: None for field in absent})
                self.assertEqual(value.missing, absent)
                self.assertEqual(list(value.numbers()), [field for field in WHOLE if field not in absent])
                for field in WHOLE:
                    self.assertIs(field in value, field not in absent)

    def test_a_kept_field_whose_source_is_missing_is_stale(self):
        value = named(tag=None)
        self.assertEqual(value.state, ("Named", ("tag",), ("echo",)))
        self.assertFalse(value)

    def test_a_kept_field_that_is_missing_is_not_stale(self):
        self.assertEqual(named(twice=None).state, ("Named", ("twice",), ()))
        self.assertEqual(named(echo=None).state, ("Named", ("echo",), ("twice",)))
        self.assertEqual(named(echo=None, twice=None).state, ("Named", ("echo", "twice"), ()))
        self.assertEqual(named(tag=None, echo=None).state, ("Named", ("tag", "echo"), ("twice",)))
        self.assertEqual(named(tag=None, echo=None, twice=None).state, ("Named", ("tag", "echo", "twice"), ()))

    def test_a_value_counts_as_true_if_nothing_is_missing_or_stale(self):
        for value, expected in ((named(), True), (named(twice=None), False), (named(twice=9), False), (named(tag=None), False)):
            self.assertIs(bool(value), expected)

    def test_only_the_direct_source_counts(self):
        self.assertEqual(named(echo=9, twice=9).stale, ("echo",))
        self.assertEqual(named(echo=9).stale, ("echo", "twice"))
        self.assertEqual(named(twice=9).stale, ("twice",))
        self.assertEqual(named(tag=9).stale, ("echo",))
        self.assertEqual(named(tag=9, echo=9).stale, ("twice",))

    def test_ties(self):
        self.assertEqual(named(y=9).stale, ("y",))
        self.assertEqual(named(x=9).stale, ("y", "size"))
        self.assertEqual(named(x=9, size=9).stale, ("y",))

    def test_fixed_fields(self):
        world = pair_world(*HEIRS)
        numbers = {"x": 5, "y": 5, "size": 5, "tag": 1, "echo": 1, "twice": 1, "id": 2}
        self.assertTrue(Value(world, "Fixed", numbers))
        self.assertEqual(Value(world, "Fixed", {**numbers, "x": 6}).stale, ("x", "y", "size"))
        self.assertEqual(Value(world, "Fixed", {**numbers, "x": 6, "y": 6, "size": 6}).stale, ("x",))
        self.assertEqual(Value(world, "Fixed", {**numbers, "y": 6}).stale, ("y",))

    def test_rules_of_every_class_above_count(self):
        world = pair_world(*HEIRS, "heir Last of Fixed", "keeps more of id")
        value = Value(world, "Last", {"x": 1, "y": 2, "size": 3, "tag": 4, "echo": 5, "twice": 6, "id": 7, "more": 8})
        self.assertEqual(value.state, ("Last", (), ("x", "y", "size", "echo", "twice", "more")))

    def test_rules_of_heirs_below_do_not_count(self):
        world = pair_world(*HEIRS)
        self.assertEqual(Value(world, "Pair", {"x": 1, "y": 2, "size": 1}).state, ("Pair", (), ()))
        self.assertEqual(Value(world, "Named", {"x": 1, "y": 1, "size": 1}).missing, ("tag", "echo", "twice"))

    def test_kept_fields_of_the_root_in_a_chain(self):
        library = Library.read("library A\nneeds b\nkeeps c of b\nkeeps d of c\npos by named")
        world = World.of(library)
        for numbers, stale in (((1, 1, 1), ()), ((2, 1, 1), ("c",)), ((1, 2, 1), ("c", "d")), ((1, 1, 2), ("d",))):
            self.assertEqual(Value(world, "A", dict(zip("bcd", numbers))).stale, stale)

    def test_missing_and_stale_come_in_the_order_of_the_fields(self):
        world = pair_world("heir A of Pair", "keeps zz of x", "keeps aa of y", "takes mm 1", "fixes y 4", "heir B of A",
                           "keeps bb of mm", "fixes x 4")
        value = Value(world, "B", {"aa": 3, "zz": 2, "size": 0, "y": 1, "x": 1})
        self.assertEqual(value.state, ("B", ("mm", "bb"), ("x", "y", "size", "zz", "aa")))
        value = Value(world, "B", {"bb": 3, "size": 1, "y": 4, "x": 4})
        self.assertEqual(value.state, ("B", ("zz", "aa", "mm"), ("size", "bb")))

    def test_zero_and_huge_numbers(self):
        world = pair_world("heir A of Pair", "fixes x 0")
        self.assertEqual(Value(world, "A", {"x": 0, "y": HUGE, "size": 0}).stale, ())
        self.assertEqual(Value(world, "A", {"x": HUGE, "y": 0, "size": HUGE}).stale, ("x",))
        self.assertEqual(Value(world, "A", {"x": -HUGE, "y": 0, "size": HUGE}).stale, ("x", "size"))
        self.assertEqual(Value(world, "A", {"x": 0, "y": -1, "size": HUGE}).numbers(), {"x": 0, "y": -1, "size": HUGE})

    def test_the_kinds_of_what_is_told(self):
        value = named(tag=None, y=3)
        for told in (value.missing, value.stale, value.state, value.state[1], value.state[2]):
            self.assertIs(told.__class__, tuple)
        self.assertIs(value.numbers().__class__, dict)
        self.assertIs(bool(value), False)

    def test_by_name(self):
        value = Value(numbers={"x": 1, "y": 2, "size": 1}, name="Pair", world=pair_world())
        self.assertEqual(value, by_position(pair_world(), "Pair", 1, 2))


class Keys(unittest.TestCase):
    def refused(self, name, numbers, field):
        with self.assertRaises(BadValue) as caught:
            Value(pair_world(*HEIRS), name, numbers)
        self.assertEqual(caught.exception.field, field)

    def test_in_any_order(self):
        values = [Value(pair_world(), "Pair", dict(rows)) for rows in itertools.permutations([("x", 1), ("y", 2), ("size", 3)])]
        for value in values:
            self.assertEqual(value, values[0])
            self.assertEqual(value.state, ("Pair", (), ("size",)))

    def test_the_first_field_of_the_root_that_is_absent(self):
        for name in ("Pair", "Named", "Fixed"):
            self.refused(name, {}, "x")
            self.refused(name, {"y": 1, "size": 1}, "x")
            self.refused(name, {"x": 1, "size": 1}, "y")
            self.refused(name, {"x": 1}, "y")
            self.refused(name, {"y": 1, "x": 1}, "size")
            self.refused(name, {"x": 1, "y": 1, "tag": 3, "echo": 3, "twice": 3, "id": 1}, "size")

    def test_the_first_key_that_is_no_field(self):
        whole = {"x": 1, "y": 1, "size": 1}
        self.refused("Pair", {**whole, "tag": 3}, "tag")
        self.refused("Pair", {"z": 1, **whole, "b": 2, "a": 3, "c": 3}, "a")
        self.refused("Named", {"id": 1, **whole}, "id")
        self.refused("Named", {**whole, "zz": 1, "tagg": 1, "tag": 2}, "tagg")
        self.refused("Fixed", {**whole, "": 1}, "")
        self.refused("Fixed", {**whole, "b": 1, "B": 1, "x ": 2}, "B")

    def test_absent_fields_come_first(self):
        self.refused("Pair", {"a": 1, "x": 1, "y": 1}, "size")
        self.refused("Pair", {"a": 1}, "x")

    def test_no_class(self):
        for thing in ("Nam", "pair", "Pair ", "x", *OTHER_VALUES, ["Pair"], ("Pair",)):
            for numbers in ({}, {"x": 1, "y": 1, "size": 1}, {"a": 1}):
                with self.subTest(thing=thing, numbers=numbers):
                    with self.assertRaises(NoClass) as caught:
                        Value(pair_world(*HEIRS), thing, numbers)
                    self.assertEqual(caught.exception.name, thing)


class Membership(unittest.TestCase):
    def test_present_fields(self):
        value = named(tag=None, y=9)
        for field in ("x", "y", "size", "echo", "twice"):
            self.assertIs(field in value, True)
        for thing in ("tag", "id", "X", "x ", "Named", 1, 9, *OTHER_VALUES, ["x"], ("x",), {"x": 1}):
            with self.subTest(thing=thing):
                self.assertIs(thing in value, False)


class Equality(unittest.TestCase):
    def test_class_name_and_numbers_count(self):
        self.assertTrue(named() == named())
        self.assertFalse(named() != named())
        for other in (named(tag=9), named(tag=None), named(x=2), named(y=0)):
            self.assertFalse(named() == other)
            self.assertTrue(named() != other)

    def test_another_class(self):
        world = pair_world("heir A of Pair", "heir B of Pair")
        values = [by_position(world, name, 1, 2) for name in world.names()]
        for one, other in itertools.combinations(values, 2):
            self.assertFalse(one == other)

    def test_worlds_do_not_count(self):
        other = World.of(pair().with_maker("pos", "named"), "heir A of Pair")
        self.assertEqual(by_position(pair_world(), "Pair", 1, 2), by_position(other, "Pair", 1, 2))

    def test_the_order_of_the_fields_does_not_count(self):
        one = pair_world("heir A of Pair", "takes t 1", "takes u 2")
        other = pair_world("heir A of Pair", "takes u 2", "takes t 1")
        self.assertEqual(by_names(one, "A", x=1, y=2), by_names(other, "A", x=1, y=2))

    def test_equal_to_nothing_of_another_class(self):
        value = named()
        for thing in (value.numbers(), value.state, "Named", None, True, 1, pair(), pair_world(), object()):
            self.assertFalse(value == thing)
            self.assertTrue(value != thing)


class ApartFromWhatIsPassed(unittest.TestCase):
    def test_the_dict_that_is_passed(self):
        numbers = {"x": 1, "y": 2, "size": 1}
        value = Value(pair_world(), "Pair", numbers)
        numbers["x"] = 5
        numbers["other"] = 7
        del numbers["y"]
        self.assertEqual(value.numbers(), {"x": 1, "y": 2, "size": 1})
        self.assertEqual(value.state, ("Pair", (), ()))
        self.assertEqual(value, by_position(pair_world(), "Pair", 1, 2))

    def test_the_dict_that_is_passed_stays_as_it_was(self):
        numbers = {"size": 1, "y": 2, "x": 1}
        Value(pair_world(), "Pair", numbers)
        self.assertEqual(list(numbers.items()), [("size", 1), ("y", 2), ("x", 1)])

    def test_the_dict_that_is_returned(self):
        value = named()
        before = value.numbers()
        first = value.numbers()
        first.clear()
        first["tag"] = 0
        self.assertEqual(value.numbers(), before)
        self.assertEqual(value.state, ("Named", (), ()))
        self.assertIn("x", value)


if __name__ == "__main__":
    unittest.main()
