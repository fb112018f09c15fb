"""How an operation makes its result (points 11 and 12), in cells: pairs of a number and its fate."""

from heirsback.constructor import call_by_names, call_by_position

SIDES = ("left", "right")


class Missing(LookupError):
    """A field that is to be read is missing."""


class Making:
    """What one step has before it: the cells of the new numbers, and the operands or the asked class."""

    def __init__(self, world, fresh, operands, own):
        self._world = world
        self._root = world.library.name
        self._fresh = dict(fresh)
        self._classes = [operand.name for operand in operands]
        self._numbers = [operand.numbers() for operand in operands]
        # The left operand's class, or the asked class.
        self._own = own

    def result(self, maker):
        """The class and the cells of the result. Raises Missing, and what the constructors raise."""
        way, _, target = maker.partition(" ")
        if way != "hook":
            return self._made(way, target, self._root)
        place, word = self._world.hook_of(self._own)
        return self._made(word, "own", place)

    def _made(self, way, target, place):
        """The result of a way: the ways that do not tell the parameters of their row take those of the place."""
        name, at = self._target(target)
        if way == "copy":
            return name, self._copied(at)
        if way == "bare":
            return name, call_by_position(self._world, self._root, self._row(self._root, at))
        if way == "renew":
            return name, call_by_names(self._world, name, self._renewed(name, at))
        row = self._row(place, at)
        if way == "named":
            return place, call_by_position(self._world, place, row)
        if way == "call":
            return name, call_by_position(self._world, name, row)
        return name, call_by_names(self._world, name, dict(zip(self._parameters(place), row)))

    def _target(self, target):
        """The target class, and the index of the source among the operands."""
        if target in ("", "own"):
            return self._own, 0
        other = self._classes[1]
        if target == "common":
            return self._world.nearest(self._own, other), 0
        if target == "other" or (other != self._own and self._world.belongs(other, self._own)):
            return other, 1
        return self._own, 0

    def _parameters(self, name):
        return [field for field, _ in self._world.parameters(name)]

    def _row(self, name, at):
        """The cells of the row of this class's parameters."""
        return [self._passed(field, at) for field in self._parameters(name)]

    def _passed(self, field, at):
        if field in self._fresh:
            return self._fresh[field]
        if field not in self._numbers[at]:
            raise Missing()
        return self._read(field, at)

    def _read(self, field, at):
        return self._numbers[at][field], (SIDES[at], field)

    def _renewed(self, name, at):
        """The row of the class's own parameters, and behind it what else is new."""
        cells = {field: self._passed(field, at) for field in self._parameters(name)}
        for field in self._fresh:
            if field not in cells:
                cells[field] = self._fresh[field]
        return cells

    def _copied(self, at):
        cells = {field: self._read(field, at) for field in self._numbers[at]}
        for field in self._fresh:
            cells[field] = self._fresh[field]
        return cells
