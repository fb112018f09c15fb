"""Libraries that are as they must be (points 4, 5, 6), and what they tell."""

import unittest

from heirsback.errors import NoSign
from heirsback.library import Library
from samples import FULL_LINES, OTHER_VALUES, PAIR, SMALL, pair, text_of

BINARY = ["+", "-", "*", "//", "&", "|", "^", "<<", ">>"]
UNARY = ["neg", "pos", "abs", "invert"]


def with_needs(*fields):
    return "library Pair\n" + "".join([f"needs {field}\n" for field in fields])


class TheExample(unittest.TestCase):
    def test_what_was_read(self):
        library = pair()
        self.assertEqual(library.name, "Pair")
        self.assertEqual(library.root_parameters, ("x", "y"))
        self.assertEqual(library.kept, (("size", "x"),))
        self.assertEqual(library.root_hook, "call")
        self.assertEqual(library.signs(), ["+", "neg", "pos", "zero"])
        self.assertEqual([library.arity(sign) for sign in library.signs()], [2, 1, 1, 0])
        self.assertEqual([library.changed(sign) for sign in library.signs()], [("x", "y"), ("x",), (), ("x", "y")])
        self.assertEqual([library.maker_of(sign) for sign in library.signs()], ["call own", "hook", "copy own", "named"])

    def test_attributes_are_set_at_once(self):
        self.assertLessEqual({"name", "root_parameters", "kept", "root_hook"}, set(vars(pair())))

    def test_by_name(self):
        library = Library.read(text=PAIR)
        self.assertEqual(library.arity(sign="+"), 2)
        self.assertEqual(library.changed(sign="neg"), ("x",))
        self.assertEqual(library.maker_of(sign="pos"), "copy own")


class Parts(unittest.TestCase):
    def test_the_fewest_lines(self):
        library = Library.read(SMALL)
        self.assertEqual(library.name, "A")
        self.assertEqual(library.root_parameters, ("b",))
        self.assertEqual(library.kept, ())
        self.assertIs(library.root_hook, None)
        self.assertEqual(library.signs(), ["-"])
        self.assertEqual(library.changed("-"), ())
        self.assertEqual(len(library), 1)

    def test_the_most_lines(self):
        library = Library.read(text_of(FULL_LINES))
        self.assertEqual(library.name, "Abcdefgh")
        self.assertEqual(library.root_parameters, ("x", "abcdefgh", "z"))
        self.assertEqual(library.kept, (("size", "z"), ("wide", "size")))
        self.assertEqual(library.root_hook, "bare")
        self.assertEqual(library.signs(), ["+", "neg", "zero", "//", "invert", "one"])
        self.assertEqual(library.changed("+"), ("x", "z"))
        self.assertEqual(library.changed("neg"), ("abcdefgh",))
        self.assertEqual(library.changed("one"), ("x", "abcdefgh", "z"))
        self.assertEqual(library.maker_of("//"), "copy deeper")

    def test_one_to_three_parameters(self):
        for fields in (("x",), ("y", "x"), ("c", "a", "b")):
            with self.subTest(fields=fields):
                library = Library.read(with_needs(*fields) + "make zero by named")
                self.assertEqual(library.root_parameters, fields)
                self.assertEqual(library.changed("zero"), fields)

    def test_kept_fields_of_parameters_and_of_kept_fields(self):
        for kept in ((("k", "x"),), (("k", "y"), ("m", "y")), (("k", "y"), ("m", "k"))):
            with self.subTest(kept=kept):
                lines = "".join([f"keeps {field} of {source}\n" for field, source in kept])
                self.assertEqual(Library.read(with_needs("x", "y") + lines + "pos by named").kept, kept)

    def test_each_hook(self):
        for word in ("named", "call", "names", "renew", "copy", "bare"):
            with self.subTest(word=word):
                library = Library.read(with_needs("x") + f"hook {word}\npos by hook")
                self.assertEqual(library.root_hook, word)
                self.assertEqual(library.maker_of("pos"), "hook")

    def test_each_sign_with_each_maker(self):
        for signs, arity in ((BINARY, 2), (UNARY, 1)):
            for sign in signs:
                for maker in Library.makers(arity):
                    with self.subTest(sign=sign, maker=maker):
                        library = Library.read(with_needs("x") + f"hook copy\n{sign} changes x by {maker}")
                        self.assertEqual(library.signs(), [sign])
                        self.assertEqual(library.arity(sign), arity)
                        self.assertEqual(library.changed(sign), ("x",))
                        self.assertEqual(library.maker_of(sign), maker)

    def test_requests(self):
        words = ["zero", "a", "abcdefgh", "by", "changes", "name", "of", "to", "world", "make", "needs", "x", "plus"]
        for word in words:
            for maker in Library.makers(0):
                with self.subTest(word=word, maker=maker):
                    library = Library.read(with_needs("x", "y") + f"make {word} by {maker}")
                    self.assertEqual(library.signs(), [word])
                    self.assertEqual(library.arity(word), 0)
                    self.assertEqual(library.changed(word), ("x", "y"))
                    self.assertEqual(library.maker_of(word), maker)

    def test_each_selection_of_changed_parameters(self):
        for changed in (("x",), ("y",), ("z",), ("x", "y"), ("x", "z"), ("y", "z"), ("x", "y", "z")):
            with self.subTest(changed=changed):
                line = f"abs changes {' '.join(changed)} by named"
                self.assertEqual(Library.read(with_needs("x", "y", "z") + line).changed("abs"), changed)

    def test_one_to_six_operations_in_the_order_of_the_text(self):
        words = ["f", "e", "d", "c", "b", "a"]
        for many in range(1, 7):
            with self.subTest(many=many):
                lines = [f"make {word} by named" for word in words[:many]]
                library = Library.read(with_needs("x") + text_of(lines))
                self.assertEqual(library.signs(), words[:many])
                self.assertEqual(len(library), many)

    def test_class_and_field_names_of_every_length(self):
        for many in range(1, 9):
            name, field = "Zyxwvuts"[:many], "zyxwvuts"[:many]
            with self.subTest(many=many):
                library = Library.read(f"library {name}\nneeds {field}\npos by named")
                self.assertEqual((library.name, library.root_parameters), (name, (field,)))

    def test_fields_may_have_words_that_are_not_barred(self):
        for field in ("library", "needs", "keeps", "hook", "make", "named", "call", "own", "neg", "bys", "heir"):
            with self.subTest(field=field):
                library = Library.read(with_needs(field) + f"neg changes {field} by named")
                self.assertEqual(library.changed("neg"), (field,))


class SignsOfALibrary(unittest.TestCase):
    def test_membership(self):
        library = pair()
        for sign in ("+", "neg", "pos", "zero"):
            self.assertTrue(sign in library)
        for thing in ("-", "abs", "one", "make", "Pair", "x", "+ ", "make zero", *OTHER_VALUES, ["+"], ("+",)):
            with self.subTest(thing=thing):
                self.assertFalse(thing in library)

    def test_iteration_gives_the_signs(self):
        library = pair()
        self.assertEqual([sign for sign in library], ["+", "neg", "pos", "zero"])
        self.assertEqual(list(library), library.signs())

    def test_length(self):
        self.assertEqual(len(pair()), 4)
        self.assertEqual(len(Library.read(text_of(FULL_LINES))), 6)

    def test_no_sign(self):
        library = pair()
        for thing in ("-", "abs", "one", "make", *OTHER_VALUES, ["+"], ("+",), [["neg"]]):
            for asked in (library.arity, library.changed, library.maker_of):
                with self.subTest(thing=thing, asked=asked.__name__):
                    with self.assertRaises(NoSign) as caught:
                        asked(thing)
                    self.assertEqual(caught.exception.sign, thing)
                    self.assertIs(caught.exception.sign.__class__, thing.__class__)

    def test_a_list_that_was_refused_may_change_later(self):
        refused = ["+"]
        with self.assertRaises(NoSign) as caught:
            pair().arity(refused)
        refused.append("x")
        self.assertEqual(caught.exception.sign, ["+"])


class Texts(unittest.TestCase):
    def test_the_text_is_told_again(self):
        texts = [
            PAIR,
            SMALL,
            text_of(FULL_LINES),
            with_needs("x") + "pos by named",
            with_needs("x", "y", "z") + "keeps k of z\npos changes x y z by names own",
            with_needs("x") + "hook renew\n>> changes x by hook\nmake by by bare own\n<< by call common",
        ]
        for text in texts:
            with self.subTest(text=text):
                self.assertEqual(str(Library.read(text)), text)

    def test_equal_exactly_if_the_texts_are(self):
        self.assertTrue(pair() == Library.read(PAIR))
        self.assertFalse(pair() != Library.read(PAIR))
        changes = [
            ("Pair", "Pairs"), ("needs y", "needs z"), ("size", "wide"), ("of x", "of y"), ("hook call", "hook names"),
            ("hook call\n", ""), ("keeps size of x\n", ""), ("x y by", "x by"), ("call own", "call other"),
            ("neg", "abs"), ("make zero", "make one"), ("\nmake zero by named", ""),
        ]
        for before, after in changes:
            text = PAIR.replace(before, after)
            if after == "" and before == "hook call\n":
                text = text.replace("by hook", "by named")
            text = text.replace("changes x y", "changes x z") if after == "needs z" else text
            with self.subTest(text=text):
                other = Library.read(text)
                self.assertFalse(pair() == other)
                self.assertTrue(pair() != other)

    def test_order_matters(self):
        one = Library.read(with_needs("x") + "pos by named\nneg by named")
        other = Library.read(with_needs("x") + "neg by named\npos by named")
        self.assertNotEqual(one, other)
        self.assertNotEqual(Library.read(with_needs("x", "y") + "pos by named"),
                            Library.read(with_needs("y", "x") + "pos by named"))

    def test_equal_to_nothing_of_another_class(self):
        library = pair()
        for thing in (PAIR, library.signs(), tuple(library.signs()), "Pair", None, 4, True, object()):
            with self.subTest(thing=thing):
                self.assertFalse(library == thing)
                self.assertTrue(library != thing)


class NewEachTime(unittest.TestCase):
    def test_lists_are_new(self):
        library = pair()
        library.signs().append("-")
        library.signs().clear()
        self.assertEqual(library.signs(), ["+", "neg", "pos", "zero"])
        self.assertIsNot(library.signs(), library.signs())
        made = Library.makers(2)
        made.clear()
        self.assertEqual(len(Library.makers(2)), 17)

    def test_tuples_are_tuples_throughout(self):
        library = pair()
        for thing in (library.root_parameters, library.kept, library.kept[0], library.changed("+"), library.changed("pos"),
                      library.changed("zero"), Library.read(SMALL).kept):
            self.assertIs(thing.__class__, tuple)

    def test_equal_calls_give_equal_results(self):
        library = pair()
        before = str(library)
        for sign in library.signs():
            self.assertEqual(library.changed(sign), library.changed(sign))
        self.assertEqual(str(library), before)


if __name__ == "__main__":
    unittest.main()
