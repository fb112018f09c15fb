"""The states of values of one class of a chain, and what it takes to make them (fact 30).

A state is a pair: whether all fields that the root does not have are missing, and the set of rules whose
fields are stale. Only copies and values without a constructor are not fresh. Their class and state come
from the source alone, so the other operand may be any leaf of the class.
"""

from heirsback.links import way_on
from heirsback.plans import WITHOUT_CONSTRUCTOR

FRESH = (False, 0)


class Stock:
    """The states of one class, each with the number of steps, the state before and the last operation."""

    def __init__(self, link, operations):
        self.link = link
        self.made = {FRESH: (0, FRESH, None)}
        makers = [operation for operation in operations if way_on(operation, link)[0] in WITHOUT_CONSTRUCTOR]
        latest = [FRESH]
        while makers and latest:
            latest = self._more(latest, makers)

    def _more(self, states, makers):
        """The states that come from these in one step and are new."""
        found = []
        for state in states:
            for operation in makers:
                told = result_state(self.link, operation, state)
                if told not in self.made:
                    self.made[told] = (self.made[state][0] + 1, state, operation)
                    found.append(told)
        return found

    def steps_to(self, state):
        """The least number of steps after which a value of the class is in the state."""
        return self.made[state][0]

    def path(self, state):
        """The operations that lead from a leaf to the state."""
        found = []
        while state != FRESH:
            _, before, operation = self.made[state]
            found.append(operation)
            state = before
        found.reverse()
        return found


def result_state(link, operation, state):
    """The state of what a copy or a value without constructor is in, from a source of the class in this state."""
    missing, stale = state
    stale |= link.touched(operation.new_fields)
    if way_on(operation, link)[0] == "bare":
        return link.is_wider, stale & link.parameter_mask
    return missing, (stale & link.root_mask if missing else stale)
