"""Worlds that are as they must be (points 7 and 8), and what they tell."""

import unittest

from heirsback.errors import NoClass
from heirsback.library import Library
from heirsback.world import World
from samples import FULL_LINES, OTHER_VALUES, PAIR, pair, text_of

TREE = """heir Named of Pair
takes tag 7
ties y to x
heir Loud of Named
hook renew
keeps echo of tag
heir Plain of Pair
needs id
fixes x 0
keeps twin of size
takes late 999
heir Last of Loud
takes more 10
fixes x 12"""

HEIR_HOOKS = ("named", "call", "names", "renew", "copy")
LICENCES = ["needs", "takes", "fixes", "ties", "keeps", "named", "call", "names", "renew", "copy"]
NO_NAMES = ("Nam", "named", "NAMED", "Named ", "x", "tag", "heir", *OTHER_VALUES, ["Pair"], ("Pair",), [["Named"]])


def tree():
    return World.read(pair(), TREE)


def full():
    return Library.read(text_of(FULL_LINES))


class WithoutHeirs(unittest.TestCase):
    def test_what_is_told(self):
        world = World.read(pair(), "")
        self.assertEqual(world.library, pair())
        self.assertEqual(world.lines, 0)
        self.assertEqual(world.names(), ["Pair"])
        self.assertEqual(world.licences(), [])
        self.assertEqual(len(world), 0)
        self.assertFalse(world)
        self.assertEqual(str(world), "")
        self.assertIs(world.base("Pair"), None)
        self.assertEqual(world.parameters("Pair"), [("x", None), ("y", None)])
        self.assertEqual(world.fields("Pair"), ["x", "y", "size"])
        self.assertEqual(world.added("Pair"), [])
        self.assertEqual(world.rules("Pair"), [("keeps", "size", "x")])
        self.assertEqual(world.hook_of("Pair"), ("Pair", "call"))

    def test_a_root_with_everything(self):
        world = World.read(full(), "")
        self.assertEqual(world.names(), ["Abcdefgh"])
        self.assertEqual(world.parameters("Abcdefgh"), [("x", None), ("abcdefgh", None), ("z", None)])
        self.assertEqual(world.fields("Abcdefgh"), ["x", "abcdefgh", "z", "size", "wide"])
        self.assertEqual(world.rules("Abcdefgh"), [("keeps", "size", "z"), ("keeps", "wide", "size")])
        self.assertEqual(world.hook_of("Abcdefgh"), ("Abcdefgh", "bare"))

    def test_a_root_with_nothing(self):
        world = World.read(Library.read("library A\nneeds b\n- by named"), "")
        self.assertEqual(world.fields("A"), ["b"])
        self.assertEqual(world.rules("A"), [])
        self.assertIs(world.hook_of("A"), None)


class ATree(unittest.TestCase):
    def test_names_and_sizes(self):
        world = tree()
        self.assertEqual(world.names(), ["Pair", "Named", "Loud", "Plain", "Last"])
        self.assertEqual(len(world), 4)
        self.assertTrue(world)
        self.assertEqual(world.lines, 14)
        self.assertEqual(str(world), TREE)
        self.assertEqual(world.library, pair())
        self.assertIn("library", vars(world))

    def test_membership(self):
        world = tree()
        for name in ("Pair", "Named", "Loud", "Plain", "Last"):
            self.assertTrue(name in world)
        for thing in NO_NAMES:
            with self.subTest(thing=thing):
                self.assertFalse(thing in world)

    def test_bases(self):
        world = tree()
        bases = [world.base(name) for name in world.names()]
        self.assertEqual(bases, [None, "Pair", "Named", "Pair", "Loud"])

    def test_belongs(self):
        above = {
            "Pair": ["Pair"], "Named": ["Pair", "Named"], "Loud": ["Pair", "Named", "Loud"], "Plain": ["Pair", "Plain"],
            "Last": ["Pair", "Named", "Loud", "Last"],
        }
        world = tree()
        for one in world.names():
            for other in world.names():
                with self.subTest(one=one, other=other):
                    self.assertIs(world.belongs(one, other), other in above[one])

    def test_nearest(self):
        rows = {
            "Pair": ["Pair", "Pair", "Pair", "Pair", "Pair"],
            "Named": ["Pair", "Named", "Named", "Pair", "Named"],
            "Loud": ["Pair", "Named", "Loud", "Pair", "Loud"],
            "Plain": ["Pair", "Pair", "Pair", "Plain", "Pair"],
            "Last": ["Pair", "Named", "Loud", "Pair", "Last"],
        }
        world = tree()
        for one in world.names():
            self.assertEqual([world.nearest(one, other) for other in world.names()], rows[one])

    def test_nearest_of_two_branches_below_the_root(self):
        world = World.of(pair(), "heir A of Pair", "heir B of A", "heir C of B", "heir D of B", "heir E of D", "heir F of A")
        self.assertEqual(world.nearest("C", "E"), "B")
        self.assertEqual(world.nearest("E", "C"), "B")
        self.assertEqual(world.nearest("E", "F"), "A")
        self.assertEqual(world.nearest("D", "E"), "D")
        self.assertEqual(world.nearest("E", "D"), "D")

    def test_parameters(self):
        world = tree()
        self.assertEqual(world.parameters("Pair"), [("x", None), ("y", None)])
        self.assertEqual(world.parameters("Named"), [("x", None), ("tag", 7)])
        self.assertEqual(world.parameters("Loud"), [("x", None), ("tag", 7)])
        self.assertEqual(world.parameters("Plain"), [("y", None), ("id", None), ("late", 999)])
        self.assertEqual(world.parameters("Last"), [("tag", 7), ("more", 10)])

    def test_added(self):
        world = tree()
        added = [world.added(name) for name in world.names()]
        self.assertEqual(added, [[], ["tag"], ["tag"], ["id", "late"], ["tag", "more"]])

    def test_fields(self):
        world = tree()
        self.assertEqual(world.fields("Pair"), ["x", "y", "size"])
        self.assertEqual(world.fields("Named"), ["x", "y", "size", "tag"])
        self.assertEqual(world.fields("Loud"), ["x", "y", "size", "tag", "echo"])
        self.assertEqual(world.fields("Plain"), ["x", "y", "size", "id", "twin", "late"])
        self.assertEqual(world.fields("Last"), ["x", "y", "size", "tag", "echo", "more"])

    def test_rules(self):
        world = tree()
        kept = ("keeps", "size", "x")
        self.assertEqual(world.rules("Pair"), [kept])
        self.assertEqual(world.rules("Named"), [kept, ("ties", "y", "x")])
        self.assertEqual(world.rules("Loud"), [kept, ("ties", "y", "x"), ("keeps", "echo", "tag")])
        self.assertEqual(world.rules("Plain"), [kept, ("fixed", "x", 0), ("keeps", "twin", "size")])
        self.assertEqual(world.rules("Last"), [kept, ("ties", "y", "x"), ("keeps", "echo", "tag"), ("fixed", "x", 12)])

    def test_hooks(self):
        world = tree()
        hooks = [world.hook_of(name) for name in world.names()]
        call, renew = ("Pair", "call"), ("Loud", "renew")
        self.assertEqual(hooks, [call, call, renew, call, renew])

    def test_licences(self):
        self.assertEqual(tree().licences(), ["needs", "takes", "fixes", "ties", "keeps", "renew"])

    def test_by_name(self):
        world = World.read(library=pair(), text=TREE)
        self.assertEqual(world, tree())
        self.assertEqual(world.base(name="Loud"), "Named")
        self.assertTrue(world.belongs(one="Loud", other="Named"))
        self.assertFalse(world.belongs(other="Loud", one="Named"))
        self.assertEqual(world.nearest(one="Loud", other="Plain"), "Pair")
        self.assertEqual(world.parameters(name="Last"), [("tag", 7), ("more", 10)])
        self.assertEqual(world.fields(name="Named"), ["x", "y", "size", "tag"])
        self.assertEqual(world.added(name="Plain"), ["id", "late"])
        self.assertEqual(world.rules(name="Pair"), [("keeps", "size", "x")])
        self.assertEqual(world.hook_of(name="Last"), ("Loud", "renew"))


class Members(unittest.TestCase):
    def heir(self, *lines):
        return World.of(full(), "heir A of Abcdefgh", *lines)

    def test_none(self):
        world = self.heir()
        self.assertEqual(world.lines, 1)
        self.assertEqual(world.licences(), [])
        for asked in (world.parameters, world.fields, world.added, world.rules, world.hook_of):
            self.assertEqual(asked("A"), asked("Abcdefgh"))

    def test_eight_of_each_kind_that_may_repeat(self):
        fields = list("mnopqrst")
        needs = self.heir(*[f"needs {field}" for field in fields])
        self.assertEqual(needs.added("A"), fields)
        self.assertEqual(needs.parameters("A")[3:], [(field, None) for field in fields])
        takes = self.heir(*[f"takes {field} {at * 100}" for at, field in enumerate(fields)])
        self.assertEqual(takes.parameters("A")[3:], [(field, at * 100) for at, field in enumerate(fields)])
        keeps = self.heir("keeps m of wide", *[f"keeps {one} of {two}" for one, two in zip("nopqrst", "mnopqrs")])
        self.assertEqual(keeps.fields("A")[5:], fields)
        self.assertEqual(keeps.rules("A")[2:4], [("keeps", "m", "wide"), ("keeps", "n", "m")])
        self.assertEqual(keeps.added("A"), [])
        self.assertEqual(len(keeps.rules("A")), 10)

    def test_eight_heirs_with_eight_members(self):
        lines, base = [], "Abcdefgh"
        for name in "STUVWXYZ":
            lines.append(f"heir {name} of {base}")
            lines.extend([f"keeps {name.lower()}{field} of x" for field in "abcdefgh"])
            base = name
        world = World.of(full(), *lines)
        self.assertEqual(world.lines, 72)
        self.assertEqual(len(world), 8)
        self.assertEqual(len(world.fields("Z")), 5 + 64)
        self.assertEqual(world.fields("Z")[-1], "zh")
        self.assertEqual(str(world), text_of(lines))

    def test_eight_heirs_of_the_root(self):
        names = ["A", "Bb", "Ccc", "Dddd", "Eeeee", "Ffffff", "Ggggggg", "Hhhhhhhh"]
        world = World.of(full(), *[f"heir {name} of Abcdefgh" for name in names])
        self.assertEqual(world.names(), ["Abcdefgh", *names])
        self.assertEqual([world.base(name) for name in names], ["Abcdefgh"] * 8)

    def test_numbers(self):
        for number in (0, 1, 9, 10, 100, 999):
            world = self.heir(f"takes t {number}", f"fixes x {number}")
            self.assertEqual(world.parameters("A")[-1], ("t", number))
            self.assertEqual(world.rules("A")[-1], ("fixed", "x", number))
            self.assertIs(world.rules("A")[-1][2].__class__, int)

    def test_all_parameters_fixed(self):
        world = self.heir("fixes z 3", "fixes x 1", "fixes abcdefgh 2")
        self.assertEqual(world.parameters("A"), [])
        self.assertEqual(world.rules("A")[2:], [("fixed", "z", 3), ("fixed", "x", 1), ("fixed", "abcdefgh", 2)])
        self.assertEqual(world.fields("A"), ["x", "abcdefgh", "z", "size", "wide"])

    def test_ties_in_a_chain(self):
        world = self.heir("ties x to z", "ties z to abcdefgh", "fixes abcdefgh 5")
        self.assertEqual(world.parameters("A"), [])
        self.assertEqual(world.rules("A")[2:], [("ties", "x", "z"), ("ties", "z", "abcdefgh"), ("fixed", "abcdefgh", 5)])

    def test_a_source_of_a_tie_may_be_lost_below(self):
        world = self.heir("ties x to z", "heir B of A", "fixes z 4", "heir C of A", "ties z to abcdefgh")
        self.assertEqual(world.rules("B")[2:], [("ties", "x", "z"), ("fixed", "z", 4)])
        self.assertEqual(world.rules("C")[2:], [("ties", "x", "z"), ("ties", "z", "abcdefgh")])
        self.assertEqual(world.parameters("A"), [("abcdefgh", None), ("z", None)])

    def test_siblings_do_not_share_members(self):
        world = World.of(pair(), "heir A of Pair", "fixes x 1", "takes t 2", "hook copy", "heir B of Pair", "fixes x 3",
                         "needs n", "heir C of B", "keeps k of n")
        self.assertEqual(world.parameters("A"), [("y", None), ("t", 2)])
        self.assertEqual(world.parameters("B"), [("y", None), ("n", None)])
        self.assertEqual(world.fields("B"), ["x", "y", "size", "n"])
        self.assertEqual(world.fields("C"), ["x", "y", "size", "n", "k"])
        self.assertEqual(world.parameters("Pair"), [("x", None), ("y", None)])
        self.assertEqual(world.hook_of("B"), ("Pair", "call"))

    def test_parameters_come_as_they_were_introduced(self):
        world = self.heir("needs q", "fixes abcdefgh 3", "needs p", "takes b 1", "heir B of A", "takes a 2", "ties x to z")
        self.assertEqual(world.parameters("B"), [("z", None), ("q", None), ("p", None), ("b", 1), ("a", 2)])
        self.assertEqual(world.added("B"), ["q", "p", "b", "a"])
        self.assertEqual(world.fields("B"), ["x", "abcdefgh", "z", "size", "wide", "q", "p", "b", "a"])

    def test_kept_fields_of_every_source(self):
        for source in ("x", "abcdefgh", "z", "size", "wide", "n", "t", "k"):
            world = self.heir("needs n", "takes t 1", "keeps k of t", "fixes x 2", "heir B of A", f"keeps m of {source}")
            self.assertEqual(world.rules("B")[-1], ("keeps", "m", source))

    def test_needs_while_no_default_is_there(self):
        world = World.of(pair(), "heir A of Pair", "takes t 1", "heir B of Pair", "needs n", "takes u 2", "heir C of B")
        self.assertEqual(world.parameters("B"), [("x", None), ("y", None), ("n", None), ("u", 2)])


class Hooks(unittest.TestCase):
    def test_each_word(self):
        for word in HEIR_HOOKS:
            world = World.of(pair(), "heir A of Pair", f"hook {word}")
            self.assertEqual(world.hook_of("A"), ("A", word))
            self.assertEqual(world.hook_of("Pair"), ("Pair", "call"))
            self.assertEqual(world.licences(), [word])

    def test_also_if_the_library_has_no_hook(self):
        library = Library.read("library Pair\nneeds x\npos by named")
        world = World.of(library, "heir A of Pair", "heir B of A", "hook names", "heir C of B", "heir D of A")
        self.assertEqual([world.hook_of(name) for name in world.names()],
                         [None, None, ("B", "names"), ("B", "names"), None])

    def test_the_lowest_counts(self):
        world = World.of(pair(), "heir A of Pair", "hook names", "heir B of A", "heir C of B", "hook copy", "heir D of C",
                         "hook copy")
        self.assertEqual([world.hook_of(name)[0] for name in world.names()], ["Pair", "A", "A", "C", "D"])

    def test_anywhere_among_the_members(self):
        for at in range(3):
            members = ["takes t 1", "fixes x 2"]
            members.insert(at, "hook call")
            world = World.of(pair(), "heir A of Pair", *members)
            self.assertEqual(world.hook_of("A"), ("A", "call"))
            self.assertEqual(world.parameters("A"), [("y", None), ("t", 1)])


class Licences(unittest.TestCase):
    def test_each_alone(self):
        lines = {"needs": "needs n", "takes": "takes t 1", "fixes": "fixes x 1", "ties": "ties x to y", "keeps": "keeps k of x"}
        for licence in LICENCES:
            world = World.of(pair(), "heir A of Pair", lines.get(licence, f"hook {licence}"))
            self.assertEqual(world.licences(), [licence])

    def test_all_in_their_order_and_once(self):
        lines = ["heir A of Pair"]
        for at, word in enumerate(("copy", "renew", "names", "call", "named", "copy", "renew")):
            lines.extend([f"hook {word}", f"keeps k{'abcdefg'[at]} of x", f"heir {'BCDEFGH'[at]} of A"])
        lines.extend(["ties y to x", "fixes x 1", "needs n", "takes t 1", "takes u 1"])
        self.assertEqual(World.of(pair(), *lines).licences(), LICENCES)

    def test_the_library_uses_none(self):
        self.assertEqual(World.of(full(), "heir A of Abcdefgh", "takes t 1").licences(), ["takes"])


class ReadingLines(unittest.TestCase):
    def test_the_same_as_the_text(self):
        world = World.of(pair(), *TREE.split("\n"))
        self.assertEqual(world, tree())
        self.assertEqual(str(world), TREE)
        self.assertIs(world.__class__, World)

    def test_no_lines_and_one_empty_line(self):
        for world in (World.of(pair()), World.of(pair(), ""), World.of(library=pair())):
            self.assertEqual(world, World.read(pair(), ""))
            self.assertEqual(world.lines, 0)


class Names(unittest.TestCase):
    def test_no_class(self):
        world = tree()
        for thing in NO_NAMES:
            for asked in (world.base, world.parameters, world.fields, world.added, world.rules, world.hook_of):
                with self.subTest(thing=thing, asked=asked.__name__):
                    with self.assertRaises(NoClass) as caught:
                        asked(thing)
                    self.assertEqual(caught.exception.name, thing)
                    self.assertIs(caught.exception.name.__class__, thing.__class__)

    def test_the_first_argument_that_is_none(self):
        world = tree()
        for asked in (world.belongs, world.nearest):
            for thing in NO_NAMES:
                for one, other in ((thing, "Pair"), ("Pair", thing), (thing, "None"), (thing, [])):
                    with self.subTest(one=one, other=other, asked=asked.__name__):
                        with self.assertRaises(NoClass) as caught:
                            asked(one, other)
                        self.assertEqual(caught.exception.name, thing)
                with self.assertRaises(NoClass) as caught:
                    asked(other=thing, one="Other")
                self.assertEqual(caught.exception.name, "Other")

    def test_classes_of_other_worlds(self):
        with self.assertRaises(NoClass) as caught:
            World.read(pair(), "").fields("Named")
        self.assertEqual(caught.exception.name, "Named")


class Equality(unittest.TestCase):
    def test_equal_libraries_and_texts(self):
        self.assertTrue(tree() == tree())
        self.assertFalse(tree() != tree())

    def test_another_text(self):
        for text in ("", TREE.replace("7", "8"), TREE.replace("tag", "tab"), TREE.rsplit("\n", 1)[0]):
            self.assertFalse(tree() == World.read(pair(), text))
            self.assertTrue(tree() != World.read(pair(), text))

    def test_another_order(self):
        one = World.of(pair(), "heir A of Pair", "takes t 1", "takes u 1")
        other = World.of(pair(), "heir A of Pair", "takes u 1", "takes t 1")
        self.assertNotEqual(one, other)

    def test_another_library(self):
        for library in (pair().with_maker("pos", "named"), Library.read(PAIR.replace("hook call", "hook copy"))):
            self.assertFalse(tree() == World.read(library, TREE))
            self.assertTrue(tree() != World.read(library, TREE))

    def test_equal_to_nothing_of_another_class(self):
        for thing in (TREE, tree().names(), pair(), None, 4, object()):
            self.assertFalse(tree() == thing)
            self.assertTrue(tree() != thing)
        self.assertFalse(World.read(pair(), "") == pair())
        self.assertFalse(World.read(pair(), "") == "")
        self.assertFalse(World.read(pair(), "") == 0)


class NewEachTime(unittest.TestCase):
    def test_lists_are_new(self):
        world = tree()
        calls = [(asked, ()) for asked in (world.names, world.licences)]
        for asked in (world.parameters, world.fields, world.added, world.rules):
            calls.extend([(asked, (name,)) for name in world.names()])
        for asked, told in calls:
            with self.subTest(asked=asked.__name__, told=told):
                before = tuple(asked(*told))
                first = asked(*told)
                self.assertIs(first.__class__, list)
                first.append("x")
                self.assertEqual(tuple(asked(*told)), before)
                asked(*told).clear()
                self.assertEqual(tuple(asked(*told)), before)

    def test_lists_of_the_base_and_the_heir_are_two(self):
        world = World.of(pair(), "heir A of Pair")
        world.parameters("A").append("x")
        world.rules("A").clear()
        self.assertEqual(world.parameters("Pair"), [("x", None), ("y", None)])
        self.assertEqual(world.rules("Pair"), [("keeps", "size", "x")])

    def test_pairs_and_rules_are_tuples(self):
        world = tree()
        for name in world.names():
            for row in [*world.parameters(name), *world.rules(name), world.hook_of(name)]:
                self.assertIs(row.__class__, tuple)

    def test_worlds_of_one_library_are_apart(self):
        library = pair()
        one = World.of(library, "heir A of Pair", "fixes x 1")
        other = World.of(library, "heir A of Pair", "takes t 1")
        self.assertEqual(one.fields("A"), ["x", "y", "size"])
        self.assertEqual(other.parameters("A"), [("x", None), ("y", None), ("t", 1)])
        self.assertEqual(str(library), PAIR)
        self.assertEqual(World.read(library, "").fields("Pair"), ["x", "y", "size"])


if __name__ == "__main__":
    unittest.main()
