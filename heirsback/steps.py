"""Steps (points 11 to 16): the execution of one operation, its outcome and its virtues."""

from heirsback.errors import Lacking, NoClass, NoSign, Surplus, TooMany, Unknown
from heirsback.making import Making, Missing
from heirsback.values import Value
from heirsback.virtues import VIRTUES, lacked


class Step:
    """An executed step. Nothing changes it once it is made."""

    def __init__(self, sign, new, value, fates, outcome):
        self.sign = sign
        self.new = tuple(new)
        self.value = value
        self.outcome = outcome
        self._fates = dict(fates)
        self._lacks = lacked(outcome)

    def fates(self):
        """The fate of each present field of the result; nothing if the step fails."""
        return dict(self._fates)

    def __contains__(self, x):
        return x in VIRTUES and x not in self._lacks

    def __bool__(self):
        return self.value is not None


def step(world, sign, *operands, start=1000):
    """The step of a binary or unary sign on these values, the left one first."""
    arity = world.library.arity(sign)
    if arity == 0:
        raise NoSign(sign)
    if len(operands) != arity:
        raise TooMany("operands")
    return _executed(world, sign, operands, operands[0].name, start)


def request(world, word, name, *, start=1000):
    """The step of a request on this class."""
    if world.library.arity(word) != 0:
        raise NoSign(word)
    if name not in world:
        raise NoClass(name)
    return _executed(world, word, (), name, start)


def _executed(world, sign, operands, own, start):
    changed = world.library.changed(sign)
    new = [start + at for at in range(len(changed))]
    fresh = {field: (number, ("new", field)) for field, number in zip(changed, new)}
    making = Making(world, fresh, operands, own)
    reason = None
    try:
        name, cells = making.result(world.library.maker_of(sign))
    except Missing:
        reason = "missing"
    except Surplus:
        reason = "surplus"
    except Lacking:
        reason = "lacking"
    except Unknown:
        reason = "unknown"
    if reason is not None:
        return Step(sign, new, None, {}, ("fails", reason))
    value = Value(world, name, {field: cells[field][0] for field in cells})
    fates = {field: cells[field][1] for field in value.numbers()}
    lacks = _lacks(world, changed, operands, own, value, fates)
    return Step(sign, new, value, fates, ("makes", lacks))


def _lacks(world, changed, operands, own, value, fates):
    """The virtues that a step lacks which made this value."""
    other = operands[-1].name if operands else own
    has = {
        "runs": True,
        "alike": value.name == own or own != other,
        "deep": _is_deep(world, own, other, value.name),
        "whole": not value.missing,
        "placed": _is_placed(world, changed, value.name, fates),
        "carried": _is_carried(world, operands, value.name, fates),
        "fresh": not value.stale,
    }
    return tuple([virtue for virtue in VIRTUES if not has[virtue]])


def _is_deep(world, own, other, name):
    """Whether this is the name of the lower class, if one of the two belongs to the other."""
    if world.belongs(own, other):
        return name == own
    return name == other or not world.belongs(other, own)


def _is_placed(world, changed, name, fates):
    """Whether each new number is in its own field, and no parameter holds what was meant for another one."""
    if not all([fates[field] == ("new", field) for field in changed]):
        return False
    return all([fates[field][1] == field for field, _ in world.parameters(name) if field in fates])


def _is_carried(world, operands, name, fates):
    """Whether each added parameter that an operand has a number for holds such a number."""
    had = [field for field in world.added(name) if any([field in operand for operand in operands])]
    return all([field in fates and fates[field][0] in ("left", "right") and fates[field][1] == field for field in had])
