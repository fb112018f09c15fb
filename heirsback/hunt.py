"""The hunt for outcomes over all worlds of a family, in the worlds that fact 31 names."""

from heirsback.expressions import Expression
from heirsback.links import Operation, root_link
from heirsback.plans import WITH_PLACE, WITHOUT_CONSTRUCTOR
from heirsback.plans import allowed_hooks, lines_of, long_plans, short_plans, text_of
from heirsback.spelling import LETTERS
from heirsback.stock import FRESH, Stock
from heirsback.trial import Trial
from heirsback.world import World


class Hunt:
    """A library and the licences of a family. What it keeps are the classes of plans, to use them again.

    A find is a tuple of the lines, the steps, the plan, the places of the operands' classes in the chain, or of
    the asked class, and the states of the operands.
    """

    def __init__(self, library, words):
        self._library = library
        self._words = tuple(words)
        self.operations = [Operation(library, sign) for sign in library.signs()]
        root = root_link(library)
        self._stocks = {(): (Stock(root, self.operations),)}

    def plans(self, operation):
        """The plans in which an outcome of the operation may be had for the fewest lines, those with few lines first.

        Each comes with the place of the first class that is worth trying as the left operand's. A line
        that can be left out is in no such plan.
        """
        found = [((), 0)]
        if operation.way == "hook":
            found.extend([(plan, 0) for plan in self._short(operation, None, self._library.root_hook)])
            for word in allowed_hooks(self._words):
                found.extend([(plan, 1) for plan in self._short(operation, word, word)])
                if word in WITH_PLACE:
                    has_twin = operation.many_operands == 2
                    found.extend([(plan, 2) for plan in long_plans(self._parameters(), self._words, word, has_twin)])
        else:
            found.extend([(plan, 0) for plan in self._short(operation, None, operation.way)])
            if operation.way in WITHOUT_CONSTRUCTOR and "copy" in self._words and self._has_hooks():
                found.extend([(plan, 0) for plan in self._short(operation, "copy", operation.way)])
        return sorted(found, key=lambda row: lines_of(row[0]))

    def outcomes(self, operation, plan, first):
        """For each outcome in the plan's world, with the last class of its chain, a find with the fewest steps."""
        stocks = self._stocks_of(plan)
        chain = [stock.link for stock in stocks]
        found = {}
        for classes in _choices(operation, len(chain) - 1, first):
            trial = Trial(chain, operation, classes)
            for states, is_stale in _states(trial, [stocks[at] for at in classes[:operation.many_operands]]):
                steps = 1 + sum([stocks[at].steps_to(state) for at, state in zip(classes, states)])
                outcome = trial.outcome_for([state[0] for state in states], is_stale)
                if outcome not in found or steps < found[outcome][1]:
                    found[outcome] = (lines_of(plan), steps, plan, classes, states)
        return found

    def world_of(self, find):
        """The world of a find."""
        return World.read(self._library, text_of(self._library, find[2]))

    def expression_of(self, operation, find):
        """The expression of a find."""
        _, _, plan, classes, states = find
        names = self.world_of(find).names()
        stocks = self._stocks_of(plan)
        if operation.many_operands == 0:
            return Expression.asked(names[classes[0]], operation.sign)
        parts = []
        for at, state in zip(classes, states):
            parts.extend(_made_parts(names[at], LETTERS[at], stocks[at].path(state)))
        return Expression([*parts, (operation.sign, "", "")])

    def _short(self, operation, hook, way):
        """The plans of one heir with this hook, where the operation makes its results by this way."""
        has_twin = operation.many_operands == 2 or hook == "named"
        return short_plans(self._parameters(), self._words, hook, way in WITHOUT_CONSTRUCTOR, has_twin)

    def _parameters(self):
        return self._library.root_parameters

    def _has_hooks(self):
        return any([operation.way == "hook" for operation in self.operations])

    def _stocks_of(self, plan):
        """The stock of each class of the plan's chain, the root's first."""
        if plan not in self._stocks:
            above = self._stocks_of(plan[:-1])
            self._stocks[plan] = (*above, Stock(above[-1].link.heir(plan[-1]), self.operations))
        return self._stocks[plan]


def _choices(operation, last, first):
    """The classes of the operands, or the asked class, among which is the last class of the chain."""
    if operation.many_operands < 2:
        return [(last,)]
    found = [(last, last)]
    for at in range(last):
        found.append((last, at))
        if at >= first:
            found.append((at, last))
    return found


def _states(trial, stocks):
    """States of the operands for each case that makes a difference, and whether the result has stale fields.

    Of the states that make no difference to each other the one with the fewest steps is taken.
    """
    if not stocks:
        return [((), trial.is_stale_from(FRESH))]
    found = [((), False)]
    for at, stock in enumerate(stocks):
        cases = {}
        for state in stock.made:
            is_stale = at == trial.source and trial.is_stale_from(state)
            cases.setdefault((state[0], is_stale), state)
        found = [((*states, cases[case]), was_stale or case[1]) for states, was_stale in found for case in cases]
    return found


def _made_parts(name, label, path):
    """The parts of an expression that brings a value of the class where the operations lead."""
    leaf = ("", label, name)
    parts = [leaf]
    for operation in path:
        mark = (operation.sign, "", "")
        if operation.many_operands == 0:
            parts = [(operation.sign, "", name)]
        elif operation.many_operands == 1:
            parts = [*parts, mark]
        elif operation.target == "other":
            parts = [leaf, *parts, mark]
        else:
            parts = [*parts, leaf, mark]
    return parts
