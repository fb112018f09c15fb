"""Runs (point 18): the execution of an expression in a world."""

from heirsback.errors import BadExpression, Failed, NoClass, NoSign
from heirsback.spelling import arity_of
from heirsback.steps import request, step
from heirsback.values import by_names
from heirsback.virtues import VIRTUES

FIRST_NUMBER = 1000


class Run:
    """The executed steps and the value, None if a step failed. Nothing changes a run once it is made."""

    def __init__(self, executed, value):
        self._executed = tuple(executed)
        self.value = value

    def journal(self):
        """The executed steps in order."""
        for done in self._executed:
            yield done

    @property
    def end(self):
        """The state of the value, or a mark that a step failed."""
        if self.value is None:
            return ("fails",)
        return self.value.state

    def lacks(self):
        """The virtues that some executed step lacks."""
        return [virtue for virtue in VIRTUES if any([virtue not in done for done in self._executed])]

    def result(self):
        """The value of the expression."""
        if self.value is None:
            raise Failed(len(self._executed) - 1, self._executed[-1].outcome[1])
        return self.value

    def __len__(self):
        return len(self._executed)

    def __bool__(self):
        return self.value is not None


def run(world, expression):
    """The run of the expression in the world."""
    _check(world, expression)
    known, number = _labelled(world, expression)
    values = []
    executed = []
    for sign, label, name in expression.parts():
        if label != "":
            values.append(known[label])
            continue
        if name != "":
            done = request(world, sign, name, start=number)
        else:
            first = len(values) - arity_of(sign)
            operands = values[first:]
            del values[first:]
            done = step(world, sign, *operands, start=number)
        executed.append(done)
        if done.value is None:
            return Run(executed, None)
        number += len(done.new)
        values.append(done.value)
    return Run(executed, values[0])


def _check(world, expression):
    """Raises an error if the expression cannot run in this world at all."""
    labels = [label for label, _ in expression.leaves()]
    if len(labels) != len(set(labels)):
        raise BadExpression(-1)
    for _, _, name in expression.parts():
        if name != "" and name not in world:
            raise NoClass(name)
    for sign, _, name in expression.parts():
        if sign == "":
            continue
        # Only a request has a class: a sign is none, although the library may have it.
        if sign not in world.library or (arity_of(sign) == 0) != (name != ""):
            raise NoSign(sign)


def _labelled(world, expression):
    """The value of each label, and the first number that none of them holds."""
    known = {}
    number = FIRST_NUMBER
    for label, name in expression.leaves():
        known[label] = value_of_leaf(world, name, number)
        number += len(world.parameters(name))
    return known, number


def value_of_leaf(world, name, start):
    """A value of the class with a number for each parameter, from this one on."""
    fields = [field for field, _ in world.parameters(name)]
    numbers = {field: start + at for at, field in enumerate(fields)}
    return by_names(world, name, **numbers)
