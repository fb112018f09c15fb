"""The errors of the package. Each keeps what it was made with, as attributes."""


def own_copy(thing):
    """Copies lists, also nested ones: an error must not change with the argument that it names."""
    if isinstance(thing, list):
        return [own_copy(part) for part in thing]
    if isinstance(thing, tuple):
        return tuple([own_copy(part) for part in thing])
    return thing


class HeirsbackError(ValueError):
    """Stands above all errors about texts, names and choices."""


class BadLibrary(HeirsbackError):
    """The text is no library: `at` is the first wrong line, -1 if it is no text."""

    def __init__(self, at):
        self.at = at


class BadWorld(HeirsbackError):
    """The text is no world: `at` is the first wrong line, -1 if it is no text."""

    def __init__(self, at):
        self.at = at


class BadValue(HeirsbackError):
    """A value must have this field, or must not have it."""

    def __init__(self, field):
        self.field = field


class BadExpression(HeirsbackError):
    """The text is no expression: `at` is the first wrong character, -1 if it is no text."""

    def __init__(self, at):
        self.at = at


class BadFamily(HeirsbackError):
    """The word is no licence."""

    def __init__(self, word):
        self.word = own_copy(word)


class BadVirtue(HeirsbackError):
    """The word is no virtue."""

    def __init__(self, word):
        self.word = own_copy(word)


class BadMaker(HeirsbackError):
    """The maker does not exist, or is not allowed there."""

    def __init__(self, maker):
        self.maker = own_copy(maker)


class NoClass(HeirsbackError):
    """The world has no class of this name."""

    def __init__(self, name):
        self.name = own_copy(name)


class NoSign(HeirsbackError):
    """The library has no such sign."""

    def __init__(self, sign):
        self.sign = own_copy(sign)


class TooMany(HeirsbackError):
    """There are too many of these, or not as many as there must be."""

    def __init__(self, what):
        self.what = what


class Unlike(HeirsbackError):
    """Two libraries are not comparable: `at` tells in which part they differ."""

    def __init__(self, at):
        self.at = at


class Surplus(LookupError):
    """A constructor got more arguments than the class has parameters."""

    def __init__(self, name, many):
        self.name = name
        self.many = many


class Lacking(LookupError):
    """A constructor got no number for a parameter without default."""

    def __init__(self, name, field):
        self.name = name
        self.field = field


class Unknown(LookupError):
    """A constructor got a number for what is no parameter of the class."""

    def __init__(self, name, field):
        self.name = name
        self.field = field


class Failed(LookupError):
    """A step of a run failed: `at` counts the executed steps from 0."""

    def __init__(self, at, reason):
        self.at = at
        self.reason = reason
