"""Runs (point 18): the values of labels, the order of the steps, the numbers, and how a run ends."""

import unittest

from heirsback.errors import BadExpression, Failed, HeirsbackError, NoClass, NoSign
from heirsback.expressions import Expression
from heirsback.library import Library
from heirsback.runs import Run, run
from heirsback.steps import request, step
from heirsback.values import Value, by_names
from heirsback.virtues import VIRTUES
from heirsback.world import World
from samples import pair_world
from step_samples import library_of, world_of

NAMED = ("heir Named of Pair", "takes tag 7")
TIED = ("heir Tied of Pair", "ties y to x")


def run_of(world, text):
    return run(world, Expression.read(text))


def rows(found):
    """The journal in short: sign, new numbers, numbers of the result or the reason."""
    return [
        (done.sign, done.new, list(done.value.numbers().values()) if done else done.outcome[1])
        for done in found.journal()
    ]


class ALeafAlone(unittest.TestCase):
    def test_no_step(self):
        found = run_of(pair_world(*NAMED), "a:Named")
        self.assertIsInstance(found, Run)
        self.assertEqual((len(found), list(found.journal()), found.lacks()), (0, [], []))
        self.assertIs(bool(found), True)
        self.assertEqual(found.value.name, "Named")
        self.assertEqual(found.value.numbers(), {"x": 1000, "y": 1001, "size": 1000, "tag": 1002})
        self.assertEqual(found.end, ("Named", (), ()))
        self.assertEqual(found.result(), found.value)

    def test_each_kind_of_member(self):
        world = pair_world(
            "heir Odd of Pair", "needs id", "takes tag 7", "keeps echo of tag", "fixes x 4", "heir Tied of Odd", "takes late 8",
            "heir Even of Pair", "ties x to y", "hook copy",
        )
        numbers = run_of(world, "a:Tied").value.numbers()
        self.assertEqual(numbers, {"x": 4, "y": 1000, "size": 4, "id": 1001, "tag": 1002, "echo": 1002, "late": 1003})
        self.assertEqual(run_of(world, "a:Even").value.numbers(), {"x": 1000, "y": 1000, "size": 1000})


class OrderAndNumbers(unittest.TestCase):
    def test_labels_first_then_left_right_and_the_step_itself(self):
        world = pair_world(*NAMED)
        found = run_of(world, "(neg(b:Pair) + (a:Named + Pair.zero))")
        # b is 1000 and 1001, a is 1002 to 1004; neg changes x, zero and + change both.
        self.assertEqual(
            rows(found),
            [
                ("neg", (1005,), [1005, 1001, 1005]),
                ("zero", (1006, 1007), [1006, 1007, 1006]),
                ("+", (1008, 1009), [1008, 1009, 1008, 7]),
                ("+", (1010, 1011), [1010, 1011, 1010]),
            ],
        )
        self.assertEqual([done.sign for done in found.journal()], Expression.read("(neg(b:Pair) + (a:Named + Pair.zero))").signs())
        self.assertEqual(found.value.numbers(), {"x": 1010, "y": 1011, "size": 1010})
        self.assertEqual(len(found), 4)

    def test_a_label_that_occurs_twice_is_one_value(self):
        world = world_of("- changes x by copy other", "+ by copy own", heirs=())
        found = run_of(world, "((a:Pair - b:Pair) + (b:Pair - a:Pair))")
        self.assertEqual(
            rows(found),
            [("-", (1004,), [1004, 1003, 1002]), ("-", (1005,), [1005, 1001, 1000]), ("+", (), [1004, 1003, 1002])],
        )
        same = run_of(world, "(a:Pair - a:Pair)")
        self.assertEqual(rows(same), [("-", (1002,), [1002, 1001, 1000])])

    def test_steps_without_new_numbers(self):
        found = run_of(pair_world(), "pos(pos(neg(a:Pair)))")
        self.assertEqual([done.new for done in found.journal()], [(1002,), (), ()])

    def test_labels_count_by_their_parameters(self):
        world = world_of("+ changes x by copy own")
        found = run_of(world, "((t:Tied + d:Deep) + (f:Fixed + n:Need))")
        # Tied has one parameter, Deep has four, Fixed one, Need three.
        self.assertEqual(rows(found)[0], ("+", (1009,), [1009, 1000, 1000]))
        self.assertEqual(rows(found)[1], ("+", (1010,), [1010, 1005, 5]))
        self.assertEqual(rows(found)[2], ("+", (1011,), [1011, 1000, 1000]))

    def test_a_run_is_steps_on_values(self):
        """A run once more, by the functions that are promised elsewhere."""
        world = world_of("+ changes x by call deeper", "neg changes y by renew own", "make zero by call own")
        a, b = by_names(world, "Low", x=1000, y=1001, tag=1002), by_names(world, "Deep", x=1003, y=1004, tag=1005, more=1006)
        first = step(world, "+", a, b, start=1007)
        second = request(world, "zero", "Low", start=1008)
        third = step(world, "neg", second.value, start=1010)
        last = step(world, "+", first.value, third.value, start=1011)
        found = run_of(world, "((a:Low + b:Deep) + neg(Low.zero))")
        told = list(found.journal())
        for done, same in zip(told, (first, second, third, last)):
            self.assertEqual(
                (done.sign, done.new, done.value, done.fates(), done.outcome),
                (same.sign, same.new, same.value, same.fates(), same.outcome),
            )
        self.assertEqual(len(told), 4)
        self.assertEqual(found.lacks(), [virtue for virtue in VIRTUES if any(virtue not in done for done in told)])


class Ends(unittest.TestCase):
    def test_example_of_the_document(self):
        plus = run_of(pair_world(*NAMED), "(a:Named + b:Named)")
        self.assertEqual((plus.lacks(), plus.end, bool(plus)), (["carried"], ("Named", (), ()), True))
        self.assertEqual(run_of(pair_world(*NAMED), "pos(a:Named)").lacks(), [])
        wide = run_of(pair_world("heir Named of Pair", "keeps wide of x"), "neg((a:Named + b:Named))")
        self.assertEqual((wide.lacks(), wide.value.numbers()["wide"]), ([], 1006))
        tied = run_of(pair_world("heir Named of Pair", "ties y to x"), "(a:Named + b:Named)")
        self.assertEqual((tied.lacks(), tied.end, bool(tied)), (["runs"], ("fails",), False))

    def test_what_a_run_lacks_is_what_any_step_lacks(self):
        world = world_of("neg changes x by copy own", "pos by named", "abs by bare own", "+ changes x y by call own")
        self.assertEqual(run_of(world, "neg(a:Low)").lacks(), ["fresh"])
        self.assertEqual(run_of(world, "pos(neg(a:Low))").lacks(), ["alike", "deep", "fresh"])
        self.assertEqual(run_of(world, "abs(neg(a:Low))").lacks(), ["whole", "carried", "fresh"])
        self.assertEqual(run_of(world, "(neg(a:Low) + b:Tied)").lacks(), ["carried", "fresh"])
        self.assertEqual(run_of(world, "(neg(a:Low) + b:Tied)").end, ("Low", (), ()))
        self.assertEqual(run_of(world, "(b:Tied + neg(a:Low))").lacks(), ["runs", "fresh"])

    def check_failure(self, found, at, reason, many):
        self.assertIs(bool(found), False)
        self.assertEqual((len(found), found.value, found.end), (many, None, ("fails",)))
        with self.assertRaises(Failed) as caught:
            found.result()
        self.assertEqual((caught.exception.at, caught.exception.reason), (at, reason))
        self.assertNotIsInstance(caught.exception, HeirsbackError)
        told = list(found.journal())
        self.assertEqual([bool(done) for done in told], [True] * at + [False])
        self.assertEqual(told[-1].outcome, ("fails", reason))
        self.assertIn("runs", found.lacks())

    def test_each_reason_at_the_first_a_middle_and_the_last_step(self):
        heirs = (
            "heir Need of Pair", "needs id", "heir Tied of Pair", "ties y to x", "heir Low of Pair", "takes tag 7", "hook renew",
        )
        world = World.of(
            Library.read(
                "library Pair\nneeds x\nneeds y\nhook call\n+ by call own\n- by names own\nneg by hook\nabs by bare own\npos by copy own"
            ),
            *heirs,
        )
        failing = {
            "surplus": "(t:Tied + p:Pair)",
            "lacking": "(n:Need + p:Pair)",
            "unknown": "(t:Tied - p:Pair)",
        }
        for reason, text in failing.items():
            self.check_failure(run_of(world, text), 0, reason, 1)
            self.check_failure(run_of(world, f"pos(({text} + neg(p:Pair)))"), 0, reason, 1)
            self.check_failure(run_of(world, f"(pos(p:Pair) + ({text} + pos(p:Pair)))"), 1, reason, 2)
            self.check_failure(run_of(world, f"(pos(pos(p:Pair)) + {text})"), 2, reason, 3)
        self.check_failure(run_of(world, "neg(abs(l:Low))"), 1, "missing", 2)
        self.check_failure(run_of(world, "(pos(p:Pair) + (neg(abs(l:Low)) + pos(p:Pair)))"), 2, "missing", 3)

    def test_a_failing_step_ends_the_run(self):
        world = world_of("+ changes x y by call own", "neg by copy own")
        found = run_of(world, "((a:Tied + b:Pair) + neg(neg(b:Pair)))")
        self.assertEqual([done.sign for done in found.journal()], ["+"])
        self.assertEqual([done.new for done in found.journal()], [(1003, 1004)])

    def test_all_asked_twice(self):
        world = world_of("+ changes x y by call own", "neg by copy own")
        for text in ("(neg(a:Low) + b:Low)", "(neg(a:Tied) + b:Low)", "a:Low"):
            found, again = run_of(world, text), run_of(world, text)
            for asked in (
                lambda one: rows(one), len, lambda one: one.value, lambda one: one.end, bool, lambda one: one.lacks(),
            ):
                self.assertEqual(asked(found), asked(found))
                self.assertEqual(asked(found), asked(again))
            found.lacks().append("more")
            self.assertEqual(found.lacks(), again.lacks())
            if found:
                found.result().numbers().clear()
                self.assertEqual(found.result(), again.result())
                self.assertIsInstance(found.value, Value)
            else:
                for _ in range(2):
                    self.assertRaises(Failed, found.result)

    def test_the_journal_is_a_generator(self):
        told = run_of(pair_world(), "neg(neg(a:Pair))").journal()
        self.assertIs(iter(told), told)
        self.assertEqual([next(told).sign, next(told).sign], ["neg", "neg"])
        self.assertRaises(StopIteration, next, told)

    def test_built_and_read_expressions_run_alike(self):
        world = pair_world(*NAMED)
        built = -(Expression.leaf("a", "Named") + Expression.asked("Pair", "zero"))
        one, other = run(world, built), run_of(world, "neg((a:Named + Pair.zero))")
        self.assertEqual((rows(one), one.value, one.lacks()), (rows(other), other.value, other.lacks()))

    def test_by_names(self):
        world, told = pair_world(*NAMED), Expression.read("neg(a:Named)")
        self.assertEqual(run(expression=told, world=world).value, run(world, told).value)

    def test_a_hundred_steps(self):
        world = pair_world()
        found = run(world, Expression.read("neg(" * 100 + "a:Pair" + ")" * 100))
        self.assertEqual(len(found), 100)
        self.assertEqual(found.value.numbers()["x"], 1101)


class Refused(unittest.TestCase):
    def setUp(self):
        self.world = World.of(library_of("+ by call own", "neg by call own", "make zero by named", "make one by named"), *NAMED)

    def check(self, expression, error, **fields):
        for _ in range(2):
            with self.assertRaises(error) as caught:
                run(self.world, expression)
            self.assertIs(type(caught.exception), error)
            self.assertEqual(vars(caught.exception), fields)
        self.assertTrue(run_of(self.world, "neg((a:Named + Pair.zero))"))

    def test_one_label_with_two_classes(self):
        for text in ("(a:Pair + a:Named)", "(a:Named + (b:Pair + a:Pair))", "((a:Pair + b:Pair) + neg(b:Named))"):
            self.check(Expression.read(text), BadExpression, at=-1)

    def test_first_name_of_no_class(self):
        self.check(Expression.read("(a:Pair + (b:Other + c:More))"), NoClass, name="Other")
        self.check(Expression.read("(Other.zero + b:More)"), NoClass, name="Other")
        self.check(Expression.read("(a:More + Other.zero)"), NoClass, name="More")
        self.check(Expression.read("b:Other"), NoClass, name="Other")
        self.check(Expression.read("b:named".replace("n", "N") + "s"), NoClass, name="Nameds")

    def test_first_sign_in_the_order_of_execution(self):
        self.check(Expression.read("(a:Pair - pos(b:Pair))"), NoSign, sign="pos")
        self.check(Expression.read("(abs(a:Pair) - pos(b:Pair))"), NoSign, sign="abs")
        self.check(Expression.read("((a:Pair * b:Pair) + Pair.two)"), NoSign, sign="*")
        self.check(Expression.read("(Pair.two + (a:Pair * b:Pair))"), NoSign, sign="two")
        self.check(Expression.read("(neg(a:Pair) >> Pair.one)"), NoSign, sign=">>")

    def test_a_request_that_is_a_sign(self):
        for word in ("neg", "+", "pos"):
            self.check(Expression.asked("Pair", word), NoSign, sign=word)
            self.check(Expression.leaf("a", "Pair") + Expression.asked("Pair", word), NoSign, sign=word)

    def test_no_step_is_executed_before(self):
        # The step would fail; what the library does not have is told all the same.
        self.world = World.of(self.world.library, "heir Tied of Pair", "ties y to x", *NAMED)
        self.check(Expression.read("pos((a:Tied + a:Tied))"), NoSign, sign="pos")

    def test_which_error_comes_first(self):
        self.check(Expression.read("((a:Pair - a:Named) + b:Other)"), BadExpression, at=-1)
        self.check(Expression.read("((a:Other - a:More) * Nope.two)"), BadExpression, at=-1)
        self.check(Expression.read("((a:Pair - c:Named) + b:Other)"), NoClass, name="Other")
        self.check(Expression.read("((a:Pair - c:Named) + Pair.two)"), NoSign, sign="-")


if __name__ == "__main__":
    unittest.main()
