"""Expressions (point 17): how they are built, read and told."""

import itertools
import unittest

from heirsback.errors import TooMany
from heirsback.expressions import Expression
from samples import PAIR, pair

BINARY = {
    "+": lambda a, b: a + b,
    "-": lambda a, b: a - b,
    "*": lambda a, b: a * b,
    "//": lambda a, b: a // b,
    "&": lambda a, b: a & b,
    "|": lambda a, b: a | b,
    "^": lambda a, b: a ^ b,
    "<<": lambda a, b: a << b,
    ">>": lambda a, b: a >> b,
}
UNARY = {"neg": lambda a: -a, "pos": lambda a: +a, "abs": abs, "invert": lambda a: ~a}


def leaf(label="a", name="Pair"):
    return Expression.leaf(label, name)


def told(expression):
    return str(expression), len(expression), expression.signs(), expression.leaves()


class Leaves(unittest.TestCase):
    def test_a_leaf(self):
        found = Expression.leaf("a", "Pair")
        self.assertEqual(told(found), ("a:Pair", 0, [], [("a", "Pair")]))
        self.assertIs(found.__class__, Expression)
        self.assertEqual(Expression.leaf(name="Abcdefgh", label="abcdefgh"), Expression.read("abcdefgh:Abcdefgh"))

    def test_a_label_may_be_any_word(self):
        for label in ("neg", "abs", "by", "world", "library", "x", "abcdefgh"):
            self.assertEqual(told(Expression.leaf(label, "A")), (f"{label}:A", 0, [], [(label, "A")]))

    def test_a_leaf_counts_as_false(self):
        self.assertEqual(len(leaf()), 0)
        self.assertFalse(leaf())


class Requests(unittest.TestCase):
    def test_a_request(self):
        found = Expression.asked("Pair", "zero")
        self.assertEqual(told(found), ("Pair.zero", 1, ["zero"], []))
        self.assertIs(found.__class__, Expression)
        self.assertEqual(Expression.asked(word="negate", name="A"), Expression.read("A.negate"))


class Operators(unittest.TestCase):
    def test_binary(self):
        for sign, joined in BINARY.items():
            found = joined(leaf("a", "One"), leaf("b", "Two"))
            self.assertEqual(told(found), (f"(a:One {sign} b:Two)", 1, [sign], [("a", "One"), ("b", "Two")]))
            self.assertIs(found.__class__, Expression)

    def test_unary(self):
        for sign, changed in UNARY.items():
            found = changed(leaf())
            self.assertEqual(told(found), (f"{sign}(a:Pair)", 1, [sign], [("a", "Pair")]))
            self.assertIs(found.__class__, Expression)

    def test_each_two(self):
        for (outer, around), (inner, within) in itertools.product(BINARY.items(), repeat=2):
            a, b, c = leaf("a"), leaf("b"), Expression.asked("Pair", "zero")
            self.assertEqual(told(around(within(a, b), c)), (f"((a:Pair {inner} b:Pair) {outer} Pair.zero)", 3, [inner, "zero", outer],
                                                             [("a", "Pair"), ("b", "Pair")]))
            self.assertEqual(told(around(c, within(b, a))), (f"(Pair.zero {outer} (b:Pair {inner} a:Pair))", 3, ["zero", inner, outer],
                                                             [("b", "Pair"), ("a", "Pair")]))
        for (outer, around), (inner, within) in itertools.product(UNARY.items(), repeat=2):
            self.assertEqual(told(around(within(leaf()))), (f"{outer}({inner}(a:Pair))", 2, [inner, outer], [("a", "Pair")]))

    def test_the_order_of_execution(self):
        found = abs(Expression.asked("A", "one") + -leaf()) << ~(leaf("b") // Expression.asked("B", "two"))
        self.assertEqual(str(found), "(abs((A.one + neg(a:Pair))) << invert((b:Pair // B.two)))")
        self.assertEqual(found.signs(), ["one", "neg", "+", "abs", "two", "//", "invert", "<<"])
        self.assertEqual(len(found), 8)

    def test_an_expression_with_itself(self):
        found = leaf() + leaf()
        found = found * found
        self.assertEqual(told(found), ("((a:Pair + a:Pair) * (a:Pair + a:Pair))", 3, ["+", "+", "*"], [("a", "Pair")]))

    def test_operands_stay_as_they_were(self):
        operands = [leaf(), Expression.asked("B", "one"), leaf("a") + leaf("b"), -leaf("c")]
        before = [told(operand) for operand in operands]
        for one, other in itertools.product(operands, repeat=2):
            for joined in BINARY.values():
                joined(one, other)
            for changed in UNARY.values():
                changed(one)
            5 * one
            one ** 5
        self.assertEqual([told(operand) for operand in operands], before)


class ManyOperands(unittest.TestCase):
    def test_from_1_to_64(self):
        for sign, repeated in (("+", lambda n, a: n * a), ("*", lambda n, a: a ** n)):
            expected = leaf()
            for many in range(1, 65):
                found = repeated(many, leaf())
                self.assertEqual(found, expected)
                self.assertIs(found.__class__, Expression)
                self.assertEqual(told(found), (str(expected), many - 1, [sign] * (many - 1), [("a", "Pair")]))
                expected = BINARY[sign](expected, leaf())

    def test_as_the_document_tells(self):
        self.assertEqual(str(1 * leaf()), "a:Pair")
        self.assertEqual(str(2 * leaf()), "(a:Pair + a:Pair)")
        self.assertEqual(str(3 * leaf()), "((a:Pair + a:Pair) + a:Pair)")
        self.assertEqual(str(leaf() ** 1), "a:Pair")
        self.assertEqual(str(leaf() ** 2), "(a:Pair * a:Pair)")
        self.assertEqual(str(leaf() ** 3), "((a:Pair * a:Pair) * a:Pair)")

    def test_of_what_has_steps(self):
        self.assertEqual(told(3 * -leaf()), ("((neg(a:Pair) + neg(a:Pair)) + neg(a:Pair))", 5, ["neg", "neg", "+", "neg", "+"],
                                             [("a", "Pair")]))
        self.assertEqual(told((leaf() - leaf("b")) ** 2), ("((a:Pair - b:Pair) * (a:Pair - b:Pair))", 3, ["-", "-", "*"],
                                                           [("a", "Pair"), ("b", "Pair")]))
        self.assertEqual((2 * Expression.asked("A", "one") ** 2).signs(), ["one", "one", "*", "one", "one", "*", "+"])

    def test_more_than_64_where_the_steps_suffice(self):
        self.assertEqual(len(101 * leaf()), 100)
        self.assertEqual(len(leaf() ** 101), 100)


class AtMost100Steps(unittest.TestCase):
    def refused(self, make):
        with self.assertRaises(TooMany) as caught:
            make()
        self.assertEqual(caught.exception.what, "steps")

    def test_binary(self):
        for joined in BINARY.values():
            for left, right in ((50, 49), (99, 0), (0, 99), (1, 98)):
                one, other = (left + 1) * leaf(), (right + 1) * leaf("b")
                self.assertEqual(len(joined(one, other)), 100)
                self.refused(lambda: joined(-one, other))
                self.refused(lambda: joined(one, +other))

    def test_unary(self):
        for changed in UNARY.values():
            found = leaf()
            for _ in range(100):
                found = changed(found)
            self.assertEqual(len(found), 100)
            self.refused(lambda: changed(found))
            self.assertEqual(len(found), 100)

    def test_many_operands(self):
        for steps, most in ((0, 101), (1, 50), (2, 33), (9, 10), (49, 2), (50, 1), (99, 1), (100, 1)):
            operand = leaf()
            for _ in range(steps):
                operand = -operand
            for repeated in (lambda n: n * operand, lambda n: operand ** n):
                self.assertEqual(len(repeated(most)), most * steps + most - 1)
                self.refused(lambda: repeated(most + 1))
                self.refused(lambda: repeated(64) if steps > 1 else repeated(102))

    def test_requests_count(self):
        zero = Expression.asked("Pair", "zero")
        self.assertEqual(len(50 * zero), 99)
        self.assertEqual(len(-(50 * zero)), 100)
        self.refused(lambda: 51 * zero)
        self.refused(lambda: 50 * zero + zero)
        self.assertEqual(len(50 * zero + leaf()), 100)


class ReadAndTold(unittest.TestCase):
    TEXTS = (
        "a:Pair", "abcdefgh:Abcdefgh", "a:A", "neg:Neg", "Pair.zero", "A.a", "Abcdefgh.abcdefgh", "A.negx", "A.nega", "A.ne",
        "A.position", "A.absolute", "A.inverter", "A.inver", "invert:A",
        "neg(a:A)", "pos(A.one)", "abs(abs(a:A))", "invert(neg(pos(abs(a:A))))",
        "(a:A + b:B)", "(a:A - A.b)", "(A.a * A.b)", "(A.a // b:A)", "(a:A & a:A)", "(a:A | a:A)", "(a:A ^ a:A)", "(a:A << a:A)",
        "(a:A >> a:A)", "((a:A + b:A) + c:A)", "(a:A + (b:A + c:A))", "((a:A << b:A) >> (c:A // d:A))",
        "neg((a:A + neg(b:A)))", "(neg(a:A) + (neg:A + pos(neg:A)))", "(((a:A + b:A) - (c:A * D.d)) // abs(invert(Abc.def)))",
    )

    def test_texts(self):
        for text in self.TEXTS:
            with self.subTest(text=text):
                found = Expression.read(text)
                self.assertEqual(str(found), text)
                self.assertIs(found.__class__, Expression)
                self.assertEqual(found, Expression.read(text=text))

    def test_what_is_read_is_what_is_built(self):
        found = Expression.read("(neg(a:A) + (B.negate // abs(b:B)))")
        built = -leaf("a", "A") + Expression.asked("B", "negate") // abs(leaf("b", "B"))
        self.assertEqual(found, built)
        self.assertEqual(told(found), told(built))
        self.assertEqual(found.signs(), ["neg", "negate", "abs", "//", "+"])
        self.assertEqual(told(-found), told(-built))
        self.assertEqual(told(2 * found), told(2 * built))

    def test_all_small_ones(self):
        rows = [leaf(), leaf("b", "B"), Expression.asked("A", "zero")]
        first = list(rows)
        for _ in range(2):
            more = [changed(row) for changed in UNARY.values() for row in rows[:6]]
            more += [joined(one, other) for joined in BINARY.values() for one in rows[:6] for other in first]
            rows = more[::7]
            for row in more:
                self.assertEqual(told(Expression.read(str(row))), told(row))

    def test_100_steps(self):
        for found in (101 * leaf(), leaf("abcdefgh", "Abcdefgh") ** 101, 10 * (5 * -leaf())):
            self.assertEqual(Expression.read(str(found)), found)
            self.assertEqual(len(Expression.read(str(found))), len(found))


class LeavesInTheirOrder(unittest.TestCase):
    def leaves(self, text):
        return Expression.read(text).leaves()

    def test_from_left_to_right(self):
        self.assertEqual(self.leaves("(b:A + a:A)"), [("b", "A"), ("a", "A")])
        self.assertEqual(self.leaves("((c:A + A.x) + (b:B + neg(a:C)))"), [("c", "A"), ("b", "B"), ("a", "C")])
        self.assertEqual(self.leaves("(a:A + (B.x + (c:B + b:A)))"), [("a", "A"), ("c", "B"), ("b", "A")])

    def test_each_once(self):
        self.assertEqual(self.leaves("((b:A + a:A) + (a:A + b:A))"), [("b", "A"), ("a", "A")])

    def test_label_and_name_count(self):
        self.assertEqual(self.leaves("((a:A + a:B) + (b:A + a:A))"), [("a", "A"), ("a", "B"), ("b", "A")])

    def test_none(self):
        self.assertEqual(self.leaves("(A.x + neg(B.y))"), [])

    def test_new_each_time(self):
        found = leaf("a") + leaf("b")
        for asked in (found.leaves, found.signs):
            before = tuple(asked())
            first = asked()
            self.assertIs(first.__class__, list)
            first.clear()
            asked().append("x")
            self.assertEqual(tuple(asked()), before)
        self.assertEqual(str(found), "(a:Pair + b:Pair)")
        self.assertTrue(all(pair.__class__ is tuple for pair in found.leaves()))


class Equality(unittest.TestCase):
    def test_written_alike(self):
        rows = [Expression.read(text) for text in ReadAndTold.TEXTS]
        for at, one in enumerate(rows):
            for position, other in enumerate(rows):
                self.assertIs(one == other, at == position)
                self.assertIs(one != other, at != position)

    def test_order_labels_and_names_count(self):
        self.assertNotEqual(leaf("a") + leaf("b"), leaf("b") + leaf("a"))
        self.assertNotEqual(leaf("a"), leaf("b"))
        self.assertNotEqual(leaf("a", "A"), leaf("a", "B"))
        self.assertNotEqual((leaf() + leaf()) + leaf(), leaf() + (leaf() + leaf()))

    def test_equal_to_nothing_of_another_class(self):
        for thing in ("a:Pair", ("a", "Pair"), [], 0, None, False, pair(), object(), PAIR):
            self.assertFalse(leaf() == thing)
            self.assertTrue(leaf() != thing)


if __name__ == "__main__":
    unittest.main()
