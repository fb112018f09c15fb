"""Values of a world (point 10), and the constructors that make them (point 9)."""

from heirsback.constructor import call_by_names, call_by_position
from heirsback.errors import BadValue


class Value:
    """A class name, and numbers for the present fields. Nothing changes a value once it is made."""

    def __init__(self, world, name, numbers):
        fields = world.fields(name)
        for field in world.fields(world.library.name):
            if field not in numbers:
                raise BadValue(field)
        for field in sorted(numbers):
            if field not in fields:
                raise BadValue(field)
        outdated = [rule[1] for rule in world.rules(name) if _is_broken(rule, numbers)]
        self.name = name
        self._numbers = {field: numbers[field] for field in fields if field in numbers}
        self._missing = tuple([field for field in fields if field not in numbers])
        self._stale = tuple([field for field in fields if field in outdated])

    def numbers(self):
        """The numbers of the present fields."""
        return dict(self._numbers)

    @property
    def missing(self):
        """The fields without a number."""
        return self._missing

    @property
    def stale(self):
        """The fields that do not hold what their rule says now."""
        return self._stale

    @property
    def state(self):
        """The class name, the missing and the stale fields."""
        return self.name, self._missing, self._stale

    def __contains__(self, x):
        return isinstance(x, str) and x in self._numbers

    def __bool__(self):
        return not self._missing and not self._stale

    def __eq__(self, other):
        return isinstance(other, Value) and self.name == other.name and self._numbers == other._numbers


def by_position(world, name, *numbers):
    """The value that the constructor makes, called by position."""
    return _value_of(world, name, call_by_position(world, name, [(number, None) for number in numbers]))


def by_names(world, name, **numbers):
    """The value that the constructor makes, called by names."""
    return _value_of(world, name, call_by_names(world, name, {field: (numbers[field], None) for field in numbers}))


def _value_of(world, name, cells):
    return Value(world, name, {field: cells[field][0] for field in cells})


def _is_broken(rule, numbers):
    """Whether the field of the rule is there, but does not hold what the rule says."""
    kind, field, source = rule
    if field not in numbers:
        return False
    if kind == "fixed":
        return numbers[field] != source
    return source not in numbers or numbers[field] != numbers[source]
