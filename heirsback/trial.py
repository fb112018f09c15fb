"""The outcomes of an operation on classes of a chain, told from counts alone (facts 29 and 30)."""

from heirsback.links import way_on
from heirsback.plans import WITHOUT_CONSTRUCTOR
from heirsback.stock import result_state

LEFT = 0
RIGHT = 1


class Trial:
    """An operation, and the classes of its operands or the asked class. It tells the outcome for all states."""

    def __init__(self, chain, operation, classes):
        self._operation = operation
        self._links = [chain[at] for at in classes] if operation.many_operands else []
        own, other = classes[0], classes[-1]
        self._way, target, place = way_on(operation, chain[own])
        made, self.source = _target(target, own, other)
        if self._way == "named":
            made = place
        self._result = chain[made]
        # The class whose parameters are passed.
        self._place = chain[made] if self._way == "renew" else chain[place]
        self._takes_all = all([field in self._result.free for field in operation.new_fields])
        self._lacks = []
        if own == other and made != own:
            self._lacks.append("alike")
        if made != max(own, other):
            self._lacks.append("deep")
        self._reason = self._failure()

    def outcome_for(self, missing, is_stale):
        """The outcome for operands that are missing fields or are not, and a result with stale fields or without."""
        is_source_missing = missing[self.source] if missing else False
        if self._way in WITHOUT_CONSTRUCTOR:
            is_whole = not (self._result.is_wider if self._way == "bare" else is_source_missing)
            kept = self._result.many_added if is_whole else 0
            return self._told(is_whole, True, missing, kept, is_stale)
        if is_source_missing and self._place.many_added:
            return ("fails", "missing")
        if self._reason is not None:
            return ("fails", self._reason)
        # Where a parameter is gone, the call by position shifts all that come behind it.
        is_shifted = len(self._place.free) > len(self._result.free)
        kept = 0 if is_shifted else self._place.many_added
        return self._told(True, self._takes_all and not is_shifted, missing, kept, False)

    def is_stale_from(self, state):
        """Whether the result has stale fields, if the source is in this state."""
        return self._way in WITHOUT_CONSTRUCTOR and result_state(self._result, self._operation, state)[1] != 0

    def _told(self, is_whole, is_placed, missing, kept, is_stale):
        """The outcome where so many of the added parameters of the result, the first ones, are carried."""
        lacks = list(self._lacks)
        if not is_whole:
            lacks.append("whole")
        if not is_placed:
            lacks.append("placed")
        for link, is_missing in zip(self._links, missing):
            if not is_missing and min(link.many_added, self._result.many_added) > kept:
                lacks.append("carried")
                break
        if is_stale:
            lacks.append("fresh")
        return ("makes", tuple(lacks))

    def _failure(self):
        """Why the constructor fails; None if it does not."""
        if self._way in WITHOUT_CONSTRUCTOR or self._way == "named":
            return None
        gone = len(self._place.free) - len(self._result.free)
        needs = self._result.needs - self._place.needs
        takes = self._result.takes - self._place.takes
        if self._way == "call":
            if needs + takes < gone:
                return "surplus"
            return "lacking" if needs > gone else None
        if gone or (self._way == "renew" and not self._takes_all):
            return "unknown"
        return "lacking" if needs else None


def _target(target, own, other):
    """The target class, and which operand is the source."""
    if target == "other" or (target == "deeper" and other > own):
        return other, RIGHT
    if target == "common":
        return min(own, other), LEFT
    return own, LEFT
