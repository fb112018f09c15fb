"""Rows in brackets (point 21): whether it matters where the brackets stand."""

from heirsback.errors import NoClass, NoSign, TooMany
from heirsback.expressions import Expression
from heirsback.runs import run
from heirsback.search import Search, label_of, relabelled, start_classes

MOST_LEAVES = 7
MOST_IN_ANY_ORDER = 4


def bracketings(sign, *leaves):
    """All bracketings of the row of these leaves."""
    for parts in _bracketed(sign, [leaf.parts() for leaf in leaves]):
        yield Expression(parts)


def _bracketed(sign, rows):
    """The parts of all bracketings of these operands."""
    if len(rows) == 1:
        return [rows[0]]
    found = []
    for cut in range(1, len(rows)):
        rights = _bracketed(sign, rows[cut:])
        for left in _bracketed(sign, rows[:cut]):
            found.extend([[*left, *right, (sign, "", "")] for right in rights])
    return found


def ends(world, sign, *names, any_order=False):
    """Each end that a bracketing of the row of leaves of these classes has, with such a bracketing."""
    _check(world, sign, names)
    most = MOST_IN_ANY_ORDER if any_order else MOST_LEAVES
    if not 1 <= len(names) <= most:
        raise TooMany("leaves")
    leaves = [Expression.leaf(label_of(at), name) for at, name in enumerate(names)]
    found = {}
    for row in _orders(leaves) if any_order else [leaves]:
        for told in bracketings(sign, *row):
            found.setdefault(run(world, told).end, told)
    return found


def _check(world, sign, names):
    if sign not in world.library or world.library.arity(sign) != 2:
        raise NoSign(sign)
    for name in names:
        if name not in world:
            raise NoClass(name)


def _orders(row):
    """The row in all orders."""
    if not row:
        return [[]]
    found = []
    for at, first in enumerate(row):
        found.extend([[first, *rest] for rest in _orders(row[:at] + row[at + 1:])])
    return found


class Evenness:
    """Whether a sign is even. Nothing changes it once it is made."""

    def __init__(self, shortest, pair):
        # The classes of a shortest row that is not even.
        self._shortest = tuple(shortest)
        self._pair = pair

    @property
    def pair(self):
        """Two bracketings of one row with unlike ends; None if there is no such row."""
        return self._pair

    def __bool__(self):
        return self._pair is None

    def __len__(self):
        return len(self._shortest)


def even(world, sign, *names):
    """Whether all bracketings of each row of leaves of these classes have the same end."""
    _check(world, sign, names)
    search = Search(world, start_classes(world, names), [sign])
    triple = _uneven_triple(search, sign)
    if triple is None:
        return Evenness((), None)
    operands = relabelled([search.parts_of_state(state) for state in triple])
    first, second, third = operands
    mark = (sign, "", "")
    pair = (Expression([*first, *second, mark, *third, mark]), Expression([*first, *second, *third, mark, mark]))
    return Evenness([name for parts in operands for _, label, name in parts if label != ""], pair)


def _uneven_triple(search, sign):
    """Three states with the fewest leaves whose brackets matter.

    A shortest row in which the brackets matter has two bracketings that part it at unlike places. All
    bracketings of a shorter row have the same end, so what stands before the first place, between the two
    and behind the second one are three such states.
    """
    best = None
    fewest = 0
    states = list(search.price_of)
    for left in states:
        for middle in states:
            for right in states:
                price = search.price_of[left] + search.price_of[middle] + search.price_of[right]
                if (best is None or price < fewest) and not _is_even(search.joined, sign, (left, middle, right)):
                    best = (left, middle, right)
                    fewest = price
    return best


def _is_even(joined, sign, triple):
    """Whether the brackets make no difference to what becomes of the three states."""
    left, middle, right = triple
    first = joined[(sign, left, middle)]
    second = joined[(sign, middle, right)]
    one = None if first is None else joined[(sign, first, right)]
    other = None if second is None else joined[(sign, left, second)]
    return one == other
