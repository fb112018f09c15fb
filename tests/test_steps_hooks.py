"""Steps by the maker `hook` (point 11): each word, and each place where it may stand."""

import unittest

from heirsback.steps import step
from step_samples import made, told, valued, world_of

WORDS = ("named", "call", "names", "renew", "copy", "bare")
HEIR_WORDS = WORDS[:5]


class OfTheRoot(unittest.TestCase):
    """The place is the root, the row that of the root's parameters."""

    def check(self, word, cases):
        for sign, many in (("+", 2), ("neg", 1)):
            world = world_of(f"{sign} changes x by hook", hook=word)
            for name, expected in cases.items():
                with self.subTest(word=word, name=name, sign=sign):
                    self.assertEqual(told(step(world, sign, *made(world, *[name] * many))), expected)

    def test_named(self):
        self.check("named", {
            "Pair": ("Pair", "x=1000 new x, y=92 left y, size=1000 new x", ""),
            "Low": ("Pair", "x=1000 new x, y=2 left y, size=1000 new x", "alike deep"),
            "Tied": ("Pair", "x=1000 new x, y=41 left y, size=1000 new x", "alike deep"),
        })

    def test_call(self):
        self.check("call", {
            "Low": ("Low", "x=1000 new x, y=2 left y, size=1000 new x, tag=7 default tag", "carried"),
            "Side": ("Side", "x=1000 new x, y=22 left y, size=1000 new x, echo=22 left y", ""),
            "Need": "lacking",
            "Tied": "surplus",
        })

    def test_names(self):
        self.check("names", {
            "Low": ("Low", "x=1000 new x, y=2 left y, size=1000 new x, tag=7 default tag", "carried"),
            "Need": "lacking",
            "Tied": "unknown",
        })

    def test_renew(self):
        self.check("renew", {
            "Deep": ("Deep", "x=1000 new x, y=12 left y, size=1000 new x, tag=13 left tag, more=14 left more", ""),
            "Need": ("Need", "x=1000 new x, y=32 left y, size=1000 new x, id=33 left id", ""),
            "Tied": ("Tied", "x=1000 new x, y=1000 new x, size=1000 new x", ""),
            "Fixed": "unknown",
        })

    def test_copy(self):
        self.check("copy", {
            "Low": ("Low", "x=1000 new x, y=2 left y, size=1 left size, tag=3 left tag", "fresh"),
            "Fixed": ("Fixed", "x=1000 new x, y=52 left y, size=5 left size", "fresh"),
        })

    def test_bare(self):
        self.check("bare", {
            "Pair": ("Pair", "x=1000 new x, y=92 left y, size=1000 new x", ""),
            "Low": ("Low", "x=1000 new x, y=2 left y, size=1000 new x", "whole carried"),
            "Fixed": ("Fixed", "x=1000 new x, y=52 left y, size=1000 new x", "fresh"),
        })


class OfTwoOperands(unittest.TestCase):
    def test_the_left_one_decides_and_is_read(self):
        for word in WORDS:
            world = world_of("+ by hook", hook=word)
            root, low = made(world, "Pair", "Low")
            found = told(step(world, "+", root, low))
            self.assertEqual((found[0], found[2]), ("Pair", "deep"))
            self.assertTrue(found[1].startswith("x=91 left x, y=92 left y, "))

    def test_the_hook_of_the_right_one_does_not_count(self):
        world = world_of("+ by hook", hook="named", heirs=("heir A of Pair", "hook copy", "takes t 1"))
        root, heir = valued(world, "Pair", 1, 2, 1), valued(world, "A", 3, 4, 3, 5)
        self.assertEqual(told(step(world, "+", root, heir)), ("Pair", "x=1 left x, y=2 left y, size=1 left x", "deep"))
        self.assertEqual(told(step(world, "+", heir, root)), ("A", "x=3 left x, y=4 left y, size=3 left size, t=5 left t", ""))


class OfAnHeir(unittest.TestCase):
    """The hook stands in A; B derives from A, and C from B."""

    def world(self, word, *below, operation="neg changes x by hook", above=("takes t 7",), hook="bare"):
        heirs = ("heir A of Pair", *above, f"hook {word}", "heir B of A", *below, "heir C of B")
        return world_of(operation, hook=hook, heirs=heirs)

    def check(self, world, name, numbers, expected):
        sign = world.library.signs()[0]
        self.assertEqual(told(step(world, sign, valued(world, name, *numbers))), expected)

    def test_named(self):
        world = self.world("named", "takes u 8")
        result = ("A", "x=1000 new x, y=2 left y, size=1000 new x, t=3 left t", "")
        self.check(world, "A", (1, 2, 1, 3), result)
        for name in ("B", "C"):
            self.check(world, name, (1, 2, 1, 3, 4), (*result[:2], "alike deep"))
        self.check(world, "Pair", (1, 2, 1), ("Pair", "x=1000 new x, y=2 left y, size=1000 new x", ""))

    def test_named_with_parameters_that_are_lost_below(self):
        world = self.world("named", "fixes y 9", "takes u 8")
        self.check(world, "C", (1, 9, 1, 3, 4), ("A", "x=1000 new x, y=9 left y, size=1000 new x, t=3 left t", "alike deep"))

    def test_call(self):
        world = self.world("call", "takes u 8")
        self.check(world, "A", (1, 2, 1, 3), ("A", "x=1000 new x, y=2 left y, size=1000 new x, t=3 left t", ""))
        for name in ("B", "C"):
            self.check(world, name, (1, 2, 1, 3, 4),
                       (name, "x=1000 new x, y=2 left y, size=1000 new x, t=3 left t, u=8 default u", "carried"))

    def test_call_with_fewer_parameters_below(self):
        self.check(self.world("call", "fixes y 9"), "C", (1, 9, 1, 3), "surplus")
        self.check(self.world("call", "fixes x 9", "takes u 8"), "C", (9, 2, 9, 3, 4),
                   ("C", "x=9 fixed x, y=1000 new x, size=9 fixed x, t=2 left y, u=3 left t", "placed carried"))
        self.check(self.world("call", "ties y to x", "keeps k of t", "takes u 8"), "B", (1, 1, 1, 3, 3, 4),
                   ("B", "x=1000 new x, y=1000 new x, size=1000 new x, t=1 left y, k=1 left y, u=3 left t", "placed carried"))

    def test_call_with_a_needed_parameter_below(self):
        self.check(self.world("call", "needs n", above=()), "C", (1, 2, 1, 3), "lacking")
        self.check(self.world("call", "needs n", "needs m", "fixes x 5", above=()), "C", (5, 2, 5, 3, 4), "lacking")

    def test_names(self):
        world = self.world("names", "takes u 8")
        self.check(world, "A", (1, 2, 1, 3), ("A", "x=1000 new x, y=2 left y, size=1000 new x, t=3 left t", ""))
        for name in ("B", "C"):
            self.check(world, name, (1, 2, 1, 3, 4),
                       (name, "x=1000 new x, y=2 left y, size=1000 new x, t=3 left t, u=8 default u", "carried"))
        self.check(self.world("names", "fixes y 9"), "C", (1, 9, 1, 3), "unknown")
        self.check(self.world("names", "needs n", above=()), "C", (1, 2, 1, 3), "lacking")

    def test_renew_reads_the_operands_own_parameters(self):
        world = self.world("renew", "takes u 8", "ties y to x")
        self.check(world, "A", (1, 2, 1, 3), ("A", "x=1000 new x, y=2 left y, size=1000 new x, t=3 left t", ""))
        for name in ("B", "C"):
            self.check(world, name, (1, 1, 1, 3, 4),
                       (name, "x=1000 new x, y=1000 new x, size=1000 new x, t=3 left t, u=4 left u", ""))
        self.check(self.world("renew", "fixes x 9"), "C", (9, 2, 9, 3), "unknown")

    def test_copy(self):
        world = self.world("copy", "takes u 8")
        for name in ("B", "C"):
            self.check(world, name, (1, 2, 1, 3, 4),
                       (name, "x=1000 new x, y=2 left y, size=1 left size, t=3 left t, u=4 left u", "fresh"))

    def test_a_new_number_of_a_parameter_that_the_place_has_lost(self):
        for word in ("call", "names"):
            world = self.world(word, above=("fixes x 5",))
            for name in ("A", "B", "C"):
                self.check(world, name, (5, 2, 5), (name, "x=5 fixed x, y=2 left y, size=5 fixed x", "placed"))
        world = self.world("named", above=("fixes x 5",))
        self.check(world, "A", (5, 2, 5), ("A", "x=5 fixed x, y=2 left y, size=5 fixed x", "placed"))
        world = self.world("call", above=("ties x to y",), operation="neg changes x y by hook")
        self.check(world, "A", (2, 2, 2), ("A", "x=1001 new y, y=1001 new y, size=1001 new y", "placed"))
        world = self.world("renew", above=("ties x to y",), operation="neg changes x y by hook")
        self.check(world, "A", (2, 2, 2), "unknown")

    def test_nothing_new(self):
        world = self.world("call", operation="neg by hook")
        self.check(world, "C", (1, 2, 1, 3), ("C", "x=1 left x, y=2 left y, size=1 left x, t=3 left t", ""))
        world = self.world("named", operation="neg by hook")
        self.check(world, "C", (1, 2, 1, 3), ("A", "x=1 left x, y=2 left y, size=1 left x, t=3 left t", "alike deep"))

    def test_missing_fields_of_the_row(self):
        for word in ("named", "call", "names"):
            world = self.world(word, "takes u 8")
            self.check(world, "B", (1, 2, 1, None, 4), "missing")
            self.assertNotEqual(told(step(world, "neg", valued(world, "B", 1, 2, 1, 3, None))), "missing")
        world = self.world("renew", "takes u 8")
        self.check(world, "B", (1, 2, 1, None, 4), "missing")
        self.check(world, "B", (1, 2, 1, 3, None), "missing")
        self.check(self.world("copy", "takes u 8"), "B", (1, 2, 1, None, None),
                   ("B", "x=1000 new x, y=2 left y, size=1 left size", "whole fresh"))

    def test_missing_comes_before_a_call_that_fails(self):
        for word, reason in (("call", "surplus"), ("names", "unknown"), ("renew", "unknown")):
            world = self.world(word, "fixes x 9")
            self.check(world, "B", (9, 2, 9, None), "missing")
            self.check(world, "B", (9, 2, 9, 3), reason)


class Places(unittest.TestCase):
    def check(self, heirs, name, numbers, expected, hook="bare"):
        world = world_of("neg changes x by hook", hook=hook, heirs=heirs)
        self.assertEqual(told(step(world, "neg", valued(world, name, *numbers))), expected)

    def test_lines_behind_the_hook_count(self):
        for members in (("hook call", "takes t 7", "fixes y 5"), ("takes t 7", "fixes y 5", "hook call"),
                        ("fixes y 5", "hook call", "takes t 7")):
            for name in ("A", "B"):
                self.check(("heir A of Pair", *members, "heir B of A"), name, (1, 5, 1, 3),
                           (name, "x=1000 new x, y=5 fixed y, size=1000 new x, t=3 left t", ""))

    def test_the_lowest_hook_counts(self):
        heirs = ("heir A of Pair", "takes t 7", "hook names", "heir B of A", "takes u 8", "hook call", "heir C of B", "takes v 9")
        self.check(heirs, "C", (1, 2, 1, 3, 4, 5),
                   ("C", "x=1000 new x, y=2 left y, size=1000 new x, t=3 left t, u=4 left u, v=9 default v", "carried"))
        self.check(heirs, "A", (1, 2, 1, 3), ("A", "x=1000 new x, y=2 left y, size=1000 new x, t=3 left t", ""))

    def test_a_hook_beside_does_not_count(self):
        heirs = ("heir A of Pair", "hook copy", "heir B of Pair", "takes t 7")
        self.check(heirs, "B", (1, 2, 1, 3), ("B", "x=1000 new x, y=2 left y, size=1000 new x, t=7 default t", "carried"), hook="call")
        self.check(heirs, "A", (1, 2, 1), ("A", "x=1000 new x, y=2 left y, size=1 left size", "fresh"), hook="call")

    def test_each_word_of_an_heir_over_each_word_of_the_root(self):
        for above in WORDS:
            for word in HEIR_WORDS:
                world = world_of("neg by hook", hook=above, heirs=("heir A of Pair", "takes t 7", f"hook {word}"))
                found = told(step(world, "neg", valued(world, "A", 1, 2, 1, 3)))
                size = "1 left size" if word == "copy" else "1 left x"
                self.assertEqual(found, ("A", f"x=1 left x, y=2 left y, size={size}, t=3 left t", ""))

    def test_two_operands_of_heirs_with_hooks(self):
        heirs = ("heir A of Pair", "takes t 7", "hook call", "heir B of A", "takes u 8", "hook named", "heir C of B")
        world = world_of("+ changes y by hook", hook="named", heirs=heirs)
        one, other = valued(world, "A", 1, 2, 1, 3), valued(world, "C", 4, 5, 4, 6, 7)
        self.assertEqual(told(step(world, "+", one, other)), ("A", "x=1 left x, y=1000 new y, size=1 left x, t=3 left t", "deep"))
        self.assertEqual(told(step(world, "+", other, one)),
                         ("B", "x=4 left x, y=1000 new y, size=4 left x, t=6 left t, u=7 left u", "deep"))


if __name__ == "__main__":
    unittest.main()
