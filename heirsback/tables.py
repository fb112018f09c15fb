"""Tables (points 19 and 20): the states that are reachable in one world, and their prices."""

from heirsback.errors import BadVirtue, NoClass
from heirsback.expressions import Expression
from heirsback.search import Search, start_classes
from heirsback.virtues import VIRTUES

MOST_STATES = 40


class Table:
    """The reachable states for some start classes. Nothing changes a table once it is made."""

    def __init__(self, world, *names):
        for name in names:
            if name not in world:
                raise NoClass(name)
        self._search = Search(world, start_classes(world, names), world.library.signs(), MOST_STATES)
        self._states = tuple(self._search.price_of)

    def prices(self):
        """The right price list."""
        return {state: self._search.price_of[state] for state in self._states}

    def expression_of(self, state):
        """A least expression whose run ends in the state."""
        if state not in self._states:
            raise NoClass(state)
        return Expression(self._search.parts_of_state(state))

    def lacking(self, virtue):
        """A least expression whose last step lacks the virtue; None if no step lacks it."""
        if virtue not in VIRTUES:
            raise BadVirtue(virtue)
        if virtue not in self._search.least:
            return None
        _, origin = self._search.least[virtue]
        return Expression(self._search.parts_of(origin))

    def __contains__(self, x):
        return x in self._states

    def __len__(self):
        return len(self._states)


def is_right(world, prices, *names):
    """Whether this is the right price list for these start classes."""
    right = Table(world, *names).prices()
    if len(prices) != len(right):
        return False
    return all([state in prices and _is_number(prices[state], right[state]) for state in right])


def _is_number(worth, number):
    return isinstance(worth, int) and not isinstance(worth, bool) and worth == number
