"""The makers that point 6 allows, and changing one of them."""

import unittest

from heirsback.errors import BadLibrary, BadMaker, NoSign
from heirsback.library import Library
from samples import FULL_LINES, OTHER_VALUES, PAIR, pair, text_of

BINARY = [
    "named", "call own", "call other", "call deeper", "call common", "names own", "names other", "names deeper",
    "names common", "renew own", "renew other", "renew deeper", "copy own", "copy other", "copy deeper", "bare own", "hook",
]
UNARY = ["named", "call own", "names own", "renew own", "copy own", "bare own", "hook"]
REQUEST = ["named", "call own", "names own", "bare own"]
ALL = {2: BINARY, 1: UNARY, 0: REQUEST}


def without_hook():
    return Library.read(PAIR.replace("hook call\n", "").replace("by hook", "by named"))


class Lists(unittest.TestCase):
    def test_with_hook(self):
        for arity, makers in ALL.items():
            with self.subTest(arity=arity):
                self.assertEqual(Library.makers(arity), makers)
                self.assertEqual(Library.makers(arity, hook=True), makers)

    def test_without_hook(self):
        self.assertEqual(Library.makers(2, hook=False), BINARY[:-1])
        self.assertEqual(Library.makers(1, hook=False), UNARY[:-1])
        self.assertEqual(Library.makers(0, hook=False), REQUEST)

    def test_how_it_is_called(self):
        self.assertEqual(Library.makers(arity=1, hook=False), UNARY[:-1])
        self.assertEqual(pair().makers(0), REQUEST)
        self.assertRaises(TypeError, Library.makers, 2, False)

    def test_lists_are_new(self):
        made = Library.makers(1)
        made.append("none")
        self.assertEqual(Library.makers(1), UNARY)

    def test_reading_takes_exactly_these(self):
        starts = {2: "* by", 1: "invert by", 0: "make one by"}
        for arity, start in starts.items():
            for maker in BINARY:
                for hook in ("hook copy\n", ""):
                    text = f"library Pair\nneeds x\n{hook}{start} {maker}"
                    with self.subTest(text=text):
                        if maker in Library.makers(arity, hook=hook != ""):
                            self.assertEqual(str(Library.read(text)), text)
                        else:
                            self.assertRaises(BadLibrary, Library.read, text)


class WithMaker(unittest.TestCase):
    def test_only_this_operation_differs(self):
        library = pair()
        other = library.with_maker("+", "renew deeper")
        self.assertEqual(str(other), PAIR.replace("call own", "renew deeper"))
        self.assertEqual(other.maker_of("+"), "renew deeper")
        self.assertEqual(other.changed("+"), ("x", "y"))
        self.assertEqual(other.signs(), library.signs())
        self.assertEqual((other.name, other.root_parameters, other.kept, other.root_hook),
                         ("Pair", ("x", "y"), (("size", "x"),), "call"))
        self.assertIs(other.__class__, Library)
        self.assertEqual(other, Library.read(str(other)))

    def test_the_old_library_stays(self):
        library = pair()
        library.with_maker("neg", "copy own")
        self.assertEqual(str(library), PAIR)
        self.assertEqual(library.maker_of("neg"), "hook")

    def test_the_same_maker_gives_an_equal_library(self):
        library = pair()
        same = library.with_maker("neg", "hook")
        self.assertEqual(same, library)
        self.assertIsNot(same, library)

    def test_each_allowed_maker_of_each_operation(self):
        for library in (pair(), without_hook(), Library.read(text_of(FULL_LINES))):
            for sign in library:
                allowed = Library.makers(library.arity(sign), hook=library.root_hook is not None)
                for maker in allowed:
                    with self.subTest(library=str(library), sign=sign, maker=maker):
                        other = library.with_maker(sign, maker)
                        told = [other.maker_of(each) for each in other]
                        expected = [maker if each == sign else library.maker_of(each) for each in library]
                        self.assertEqual(told, expected)
                        self.assertEqual(other, Library.read(str(other)))

    def test_by_name(self):
        self.assertEqual(pair().with_maker(sign="zero", maker="bare own").maker_of("zero"), "bare own")

    def test_two_after_each_other(self):
        library = pair().with_maker("+", "named").with_maker("zero", "names own")
        self.assertEqual(str(library), PAIR.replace("call own", "named").replace("zero by named", "zero by names own"))

    def test_bad_makers(self):
        wrong = {
            "+": ["call", "own", "renew common", "copy common", "bare other", "hook own", "named own", "call  own", "Named"],
            "neg": ["call other", "renew deeper", "copy other", "names common", "bare deeper", "hook "],
            "zero": ["hook", "renew own", "copy own", "call other", " named"],
        }
        for sign, makers in wrong.items():
            for maker in [*makers, *OTHER_VALUES, ["named"], ("named",), ["call", "own"]]:
                with self.subTest(sign=sign, maker=maker):
                    library = pair()
                    with self.assertRaises(BadMaker) as caught:
                        library.with_maker(sign, maker)
                    self.assertEqual(caught.exception.maker, maker)
                    self.assertIs(caught.exception.maker.__class__, maker.__class__)
                    self.assertEqual(str(library), PAIR)

    def test_hook_only_with_a_hook_line(self):
        for sign in ("+", "neg", "pos"):
            with self.assertRaises(BadMaker) as caught:
                without_hook().with_maker(sign, "hook")
            self.assertEqual(caught.exception.maker, "hook")
            self.assertEqual(pair().with_maker(sign, "hook").maker_of(sign), "hook")

    def test_no_sign_comes_first(self):
        for sign in ("-", "one", *OTHER_VALUES, ["+"]):
            for maker in ("named", "nothing", None):
                with self.subTest(sign=sign, maker=maker):
                    with self.assertRaises(NoSign) as caught:
                        pair().with_maker(sign, maker)
                    self.assertEqual(caught.exception.sign, sign)


if __name__ == "__main__":
    unittest.main()
