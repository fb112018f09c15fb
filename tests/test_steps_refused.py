"""Steps and requests that are refused: which error, with which fields, and which comes first."""

import unittest

from heirsback.errors import NoClass, NoSign, TooMany
from heirsback.steps import request, step
from samples import OTHER_VALUES
from step_samples import made, world_of

OPERATIONS = ("+ changes x by named", "neg by named", "make zero by named", "make one by call own")
NO_SIGNS = ("-", "pos", "abs", "by", "+ ", " +", "Pair", "x", *OTHER_VALUES, ["+"], ("neg",), [["zero"]])
NO_NAMES = ("Pai", "pair", "Pair ", "x", *OTHER_VALUES, ["Pair"], ("Pair",))


def world():
    return world_of(*OPERATIONS)


class Steps(unittest.TestCase):
    def test_no_sign(self):
        values = made(world(), "Pair", "Low", "Low")
        for thing in (*NO_SIGNS, "zero", "one", "two"):
            for many in range(4):
                with self.subTest(thing=thing, many=many):
                    with self.assertRaises(NoSign) as caught:
                        step(world(), thing, *values[:many])
                    self.assertEqual(caught.exception.sign, thing)
                    self.assertIs(caught.exception.sign.__class__, thing.__class__)

    def test_the_number_of_operands(self):
        values = made(world(), "Pair", "Low", "Low", "Deep")
        for sign, right in (("+", 2), ("neg", 1)):
            for many in range(5):
                if many != right:
                    with self.subTest(sign=sign, many=many):
                        with self.assertRaises(TooMany) as caught:
                            step(world(), sign, *values[:many])
                        self.assertEqual(caught.exception.what, "operands")
        with self.assertRaises(TooMany):
            step(world(), "+", *values * 25, start=0)

    def test_by_name(self):
        with self.assertRaises(TooMany) as caught:
            step(sign="+", world=world(), start=5)
        self.assertEqual(caught.exception.what, "operands")
        with self.assertRaises(NoSign):
            step(world=world(), sign="zero")

    def test_what_is_told_is_a_copy(self):
        sign = ["+", ["x"]]
        with self.assertRaises(NoSign) as caught:
            step(world(), sign)
        sign[1].append("y")
        self.assertEqual(caught.exception.sign, ["+", ["x"]])

    def test_start_is_passed_by_name_only(self):
        value, = made(world(), "Pair")
        with self.assertRaises(TooMany):
            step(world(), "+", value, value, value)
        self.assertEqual(step(world(), "+", value, value, start=3).new, (3,))


class Requests(unittest.TestCase):
    def test_no_sign(self):
        for thing in (*NO_SIGNS, "+", "neg", "two"):
            for name in ("Pair", "Low", "None", []):
                with self.subTest(thing=thing, name=name):
                    with self.assertRaises(NoSign) as caught:
                        request(world(), thing, name)
                    self.assertEqual(caught.exception.sign, thing)
                    self.assertIs(caught.exception.sign.__class__, thing.__class__)

    def test_no_class(self):
        for thing in NO_NAMES:
            for word in ("zero", "one"):
                with self.subTest(thing=thing, word=word):
                    with self.assertRaises(NoClass) as caught:
                        request(world(), word, thing)
                    self.assertEqual(caught.exception.name, thing)
                    self.assertIs(caught.exception.name.__class__, thing.__class__)

    def test_by_name(self):
        found = request(start=4, name="Low", word="one", world=world())
        self.assertEqual((found.sign, found.new, found.value.name), ("one", (4, 5), "Low"))

    def test_start_is_passed_by_name_only(self):
        self.assertRaises(TypeError, request, world(), "zero", "Pair", 5)


if __name__ == "__main__":
    unittest.main()
