"""Expressions (point 17): leaves, requests, and signs between them."""

from heirsback.errors import BadExpression, TooMany
from heirsback.phrase import Phrase
from heirsback.spelling import arity_of

MOST_STEPS = 100


class Expression:
    """Parts in the order of execution, operands first: each a sign, a label and a class name, or "" for none.

    A leaf has no sign, a request no label, another sign has nothing else. Expressions that are made
    of parts may be of any length. Nothing changes an expression once it is made.
    """

    def __init__(self, parts):
        self._parts = tuple(parts)
        self._signs = tuple([sign for sign, _, _ in parts if sign != ""])

    @classmethod
    def read(cls, text):
        """The expression that the text tells."""
        if not isinstance(text, str):
            raise BadExpression(-1)
        return _checked(Phrase(text).take_all())

    @staticmethod
    def leaf(label, name):
        """A leaf: a value of this class."""
        return Expression([("", label, name)])

    @staticmethod
    def asked(name, word):
        """A request on this class."""
        return Expression([(word, "", name)])

    def parts(self):
        """The parts in the order of execution."""
        return list(self._parts)

    def signs(self):
        """The signs and requests in the order of execution."""
        return list(self._signs)

    def leaves(self):
        """Each label with its class, once, in the order of their first occurrence."""
        return list({(label, name): True for _, label, name in self._parts if label != ""})

    def __len__(self):
        return len(self._signs)

    def __str__(self):
        return str(_written(self._parts))

    def __eq__(self, other):
        return isinstance(other, Expression) and self._parts == other._parts

    def __add__(self, other):
        return _joined("+", self, other)

    def __sub__(self, other):
        return _joined("-", self, other)

    def __mul__(self, other):
        return _joined("*", self, other)

    def __floordiv__(self, other):
        return _joined("//", self, other)

    def __and__(self, other):
        return _joined("&", self, other)

    def __or__(self, other):
        return _joined("|", self, other)

    def __xor__(self, other):
        return _joined("^", self, other)

    def __lshift__(self, other):
        return _joined("<<", self, other)

    def __rshift__(self, other):
        return _joined(">>", self, other)

    def __rmul__(self, other):
        return _repeated("+", self, other)

    def __pow__(self, other):
        return _repeated("*", self, other)

    def __neg__(self):
        return _joined("neg", self)

    def __pos__(self):
        return _joined("pos", self)

    def __invert__(self):
        return _joined("invert", self)

    def __abs__(self):
        return _joined("abs", self)


def _joined(sign, *operands):
    parts = []
    for operand in operands:
        parts.extend(operand.parts())
    return _checked([*parts, (sign, "", "")])


def _repeated(sign, operand, many):
    """The sign between this operand and itself, until it stands there so many times."""
    parts = operand.parts()
    return _checked(parts + [*parts, (sign, "", "")] * (many - 1))


def _checked(parts):
    if len([sign for sign, _, _ in parts if sign != ""]) > MOST_STEPS:
        raise TooMany("steps")
    return Expression(parts)


def _written(parts):
    """The text of the parts."""
    texts = []
    for sign, label, name in parts:
        if label != "":
            texts.append(f"{label}:{name}")
        elif name != "":
            texts.append(f"{name}.{sign}")
        elif arity_of(sign) == 1:
            operand = texts.pop()
            texts.append(f"{sign}({operand})")
        else:
            right = texts.pop()
            left = texts.pop()
            texts.append(f"({left} {sign} {right})")
    return texts[0]
