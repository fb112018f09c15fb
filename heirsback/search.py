"""The states that values come into in one world, each with a least expression (points 19 and 20)."""

from heirsback.errors import TooMany
from heirsback.runs import FIRST_NUMBER, value_of_leaf
from heirsback.spelling import LETTERS
from heirsback.steps import request, step
from heirsback.virtues import lacked

# No step needs more new numbers: a root has at most three parameters.
MOST_NEW = 3


def label_of(at):
    """A label for each index."""
    label = LETTERS[at % len(LETTERS)]
    while at >= len(LETTERS):
        at = at // len(LETTERS) - 1
        label = LETTERS[at % len(LETTERS)] + label
    return label


def start_classes(world, names):
    """The chosen classes, each once; all of them if there are no names. The names must be known to be right."""
    return [name for name in world.names() if not names or name in names]


def relabelled(operands):
    """The same operands with another label for each leaf."""
    many = 0
    found = []
    for parts in operands:
        told = []
        for sign, label, name in parts:
            if label != "":
                label = label_of(many)
                many += 1
            told.append((sign, label, name))
        found.append(told)
    return found


class Search:
    """Finds each state by the price, and for each virtue a least step that lacks it.

    An origin tells how a state or a step comes about: the sign, the asked or labelled class, and the
    states of the operands. A state decides how a value goes on, so one value of each is enough.
    """

    def __init__(self, world, starts, signs, most=None):
        self._world = world
        self._most = most
        self._number = FIRST_NUMBER
        self._arity = {sign: world.library.arity(sign) for sign in signs}
        # What is offered, but may be had for less: the price, the value and the origin of each state.
        self._offered = {}
        self._values = {}
        self._origins = {}
        self.price_of = {}
        # The price and the origin of a least step that lacks the virtue.
        self.least = {}
        # What each binary sign makes of each two states; None where it fails.
        self.joined = {}
        self._offer_starts(starts)
        while self._offered:
            self._settle()

    def parts_of(self, origin):
        """The parts of an expression with this origin."""
        sign, name, states = origin
        if sign == "":
            return [("", label_of(self._world.names().index(name)), name)]
        parts = []
        for state in states:
            parts.extend(self.parts_of(self._origins[state]))
        return [*parts, (sign, "", name)]

    def parts_of_state(self, state):
        """The parts of a least expression whose value comes into this state."""
        return self.parts_of(self._origins[state])

    def _offer_starts(self, starts):
        for name in starts:
            value = value_of_leaf(self._world, name, self._number)
            self._number += len(self._world.parameters(name))
            self._offer(value, 0, ("", name, ()))
        for sign in self._arity:
            if self._arity[sign] == 0:
                for name in starts:
                    self._take(request(self._world, sign, name, start=self._number), 1, (sign, name, ()))

    def _settle(self):
        """Takes the cheapest state that is offered, and what follows from it and those before."""
        offered = self._offered
        state = min(list(offered), key=lambda one: offered[one][0])
        price, value, origin = self._offered.pop(state)
        self.price_of[state] = price
        self._values[state] = value
        self._origins[state] = origin
        for sign in self._arity:
            if self._arity[sign] == 1:
                self._execute(sign, (state,))
            elif self._arity[sign] == 2:
                for other in list(self.price_of):
                    self._join(sign, state, other)
                    if other != state:
                        self._join(sign, other, state)

    def _join(self, sign, left, right):
        self.joined[(sign, left, right)] = self._execute(sign, (left, right))

    def _execute(self, sign, states):
        """The state that the sign makes of these; None if it fails."""
        operands = [self._values[state] for state in states]
        price = 1 + sum([self.price_of[state] for state in states])
        done = step(self._world, sign, *operands, start=self._number)
        self._take(done, price, (sign, "", states))
        if done.value is None:
            return None
        return done.value.state

    def _take(self, done, price, origin):
        self._number += MOST_NEW
        for virtue in lacked(done.outcome):
            if virtue not in self.least or price < self.least[virtue][0]:
                self.least[virtue] = (price, origin)
        if done.value is not None:
            self._offer(done.value, price, origin)

    def _offer(self, value, price, origin):
        state = value.state
        if state in self.price_of:
            return
        if state not in self._offered or price < self._offered[state][0]:
            self._offered[state] = (price, value, origin)
        if self._most is not None and len(self.price_of) + len(self._offered) > self._most:
            raise TooMany("states")
