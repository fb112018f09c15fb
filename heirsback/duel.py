"""Two worlds with one text, of two libraries, and the least expression whose runs tell them apart (point 28).

A least one ends with the step that tells them apart, and its operands are equal in both worlds. One of them
may be missing fields, or have stale ones. The other one may be any leaf: if a step on two such values tells
the worlds apart, it does so with a leaf in the place of one of them.
"""

from heirsback.expressions import Expression
from heirsback.links import chain_of, way_on
from heirsback.plans import WITHOUT_CONSTRUCTOR
from heirsback.runs import FIRST_NUMBER, value_of_leaf
from heirsback.search import MOST_NEW, relabelled
from heirsback.steps import request, step


class Told:
    """A value that both worlds make alike, and the parts of an expression for it."""

    def __init__(self, value, parts, many):
        self.value = value
        self.expressed = tuple(parts)
        self.many = many


class Duel:
    """The two worlds of a plan, and what both make of the same operands."""

    def __init__(self, worlds, plan, operations):
        self._worlds = tuple(worlds)
        self._names = worlds[0].names()
        # For each sign its operation in each of the two libraries.
        self._operations = dict(operations)
        self._chains = [chain_of(world.library, plan) for world in worlds]
        self._number = FIRST_NUMBER

    def least_expression(self, signs):
        """A least expression that tells apart by one of these signs, with the last class in its last step; or None."""
        best = self._least_of(signs, [[self._leaf(name)] for name in self._names])
        if best is None:
            best = self._least_of(signs, [self._stock(at) for at in range(len(self._names))])
        return best

    def _least_of(self, signs, stocks):
        best = None
        fewest = 0
        for sign in signs:
            for operands in self._operands(sign, stocks):
                many = sum([told.many for told in operands])
                if best is None or many < fewest:
                    one, other = self._both(sign, operands, self._names[-1])
                    if one != other:
                        best = _parts(sign, operands, self._names[-1])
                        fewest = many
        return None if best is None else Expression(relabelled([best])[0])

    def _operands(self, sign, stocks):
        """The operands that are tried, one of the last class among them; none for a request."""
        latest = stocks[-1]
        arity = self._operations[sign][0].many_operands
        if arity == 0:
            return [()]
        if arity == 1:
            return [(told,) for told in latest]
        own = self._leaf(self._names[-1])
        found = []
        for name, stock in zip(self._names, stocks):
            leaf = self._leaf(name)
            for left, right in [(told, leaf) for told in latest] + [(told, own) for told in stock]:
                found.extend([(left, right), (right, left)])
        return found

    def _leaf(self, name):
        """A value with numbers of its own. What it is called is no matter until the expression is told."""
        value = value_of_leaf(self._worlds[0], name, self._number)
        self._number += len(self._worlds[0].parameters(name))
        return Told(value, [("", "a", name)], 0)

    def _stock(self, at):
        """A value of the class for each state into which both worlds bring it alike, the least steps first."""
        name = self._names[at]
        makers = [sign for sign in self._operations if self._is_maker(sign, at)]
        latest = [self._leaf(name)]
        found = {latest[0].value.state: latest[0]}
        while makers and latest:
            more = []
            for told in latest:
                for sign in makers:
                    more.extend(self._made_beside(sign, told, name))
            latest = []
            for told in more:
                if told.value.state not in found:
                    found[told.value.state] = told
                    latest.append(told)
        return list(found.values())

    def _is_maker(self, sign, at):
        """Whether neither world calls a constructor here."""
        ways = [way_on(operation, chain[at])[0] for operation, chain in zip(self._operations[sign], self._chains)]
        return all([way in WITHOUT_CONSTRUCTOR for way in ways])

    def _made_beside(self, sign, told, name):
        """What both worlds make alike of this value, with a leaf beside it."""
        beside = self._leaf(name)
        choices = ([()], [(told,)], [(told, beside), (beside, told)])
        found = []
        for operands in choices[self._operations[sign][0].many_operands]:
            one, other = self._both(sign, operands, name)
            if one is not None and one == other:
                found.append(Told(one, _parts(sign, operands, name), told.many + 1))
        return found

    def _both(self, sign, operands, name):
        """The results of the step in both worlds, None where it fails."""
        values = [told.value for told in operands]
        found = []
        for world in self._worlds:
            if values:
                found.append(step(world, sign, *values, start=self._number).value)
            else:
                found.append(request(world, sign, name, start=self._number).value)
        self._number += MOST_NEW
        return found


def _parts(sign, operands, name):
    parts = []
    for told in operands:
        parts.extend(told.expressed)
    return [*parts, (sign, "", "" if operands else name)]
