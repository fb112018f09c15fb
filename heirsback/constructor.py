"""Constructors (point 9). They work on cells, pairs of a number and its fate (point 14), which go the same ways."""

from heirsback.errors import Lacking, Surplus, Unknown


def call_by_position(world, name, cells):
    """The cell of each field of a new value, from the cells of the first parameters."""
    parameters = world.parameters(name)
    if len(cells) > len(parameters):
        raise Surplus(name, len(parameters))
    return _filled(world, name, {parameters[at][0]: cell for at, cell in enumerate(cells)})


def call_by_names(world, name, given):
    """The cell of each field of a new value, from a dict of cells."""
    known = [field for field, _ in world.parameters(name)]
    for field in given:
        if field not in known:
            raise Unknown(name, field)
    return _filled(world, name, given)


def _filled(world, name, given):
    cells = {}
    for field, default in world.parameters(name):
        if field in given:
            cells[field] = given[field]
        elif default is None:
            raise Lacking(name, field)
        else:
            cells[field] = (default, ("default", field))
    rules = world.rules(name)
    # A field to which another one is tied loses its own parameter in a later line only.
    for kind, field, source in reversed(rules):
        if kind == "fixed":
            cells[field] = (source, ("fixed", field))
        elif kind == "ties":
            cells[field] = cells[source]
    # What a field is kept of stands in an earlier line.
    for kind, field, source in rules:
        if kind == "keeps":
            cells[field] = cells[source]
    return cells
