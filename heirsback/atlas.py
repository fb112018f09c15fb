"""Atlases (points 23 to 25): the outcomes of an operation in all worlds of a family, and whether it is served."""

from heirsback.hunt import Hunt
from heirsback.plans import lines_of
from heirsback.virtues import check_virtues, lacks_any


class Entry:
    """An outcome with a world and an expression that show it. Nothing changes an entry once it is made."""

    def __init__(self, sign, outcome, world, expression):
        self.sign = sign
        self.outcome = outcome
        self.world = world
        self.expression = expression

    @property
    def lines(self):
        """The lines of the world."""
        return self.world.lines

    @property
    def steps(self):
        """The steps of the expression."""
        return len(self.expression)


class Verdict:
    """Whether a library serves a family; if not, a least entry that shows it. Nothing changes it once it is made."""

    def __init__(self, entry, many):
        self.entry = entry
        self._many = many

    def __bool__(self):
        return self.entry is None

    def __len__(self):
        # Where objects are iterated over, a length is not taken of a range itself.
        return len(list(range(self._many)))


def atlas(library, sign, family):
    """An entry for each outcome of the operation in a world of the family."""
    library.arity(sign)
    hunt = Hunt(library, family.words)
    operation = [one for one in hunt.operations if one.sign == sign][0]
    best = {}
    for plan, first in hunt.plans(operation):
        found = hunt.outcomes(operation, plan, first)
        for outcome in found:
            if outcome not in best or found[outcome][:2] < best[outcome][:2]:
                best[outcome] = found[outcome]
    return [_entry(hunt, operation, outcome, best[outcome]) for outcome in sorted(list(best))]


def _entry(hunt, operation, outcome, find):
    return Entry(operation.sign, outcome, hunt.world_of(find), hunt.expression_of(operation, find))


def serves(library, family, virtues):
    """Whether no step in any world of the family lacks one of the virtues."""
    chosen = check_virtues(virtues)
    hunt = Hunt(library, family.words)
    best = None
    for operation in hunt.operations:
        best = _least(hunt, operation, chosen, best)
    if best is None:
        return Verdict(None, 0)
    find, operation, outcome = best
    return Verdict(_entry(hunt, operation, outcome, find), find[0])


def _least(hunt, operation, chosen, best):
    """The best so far, or a better one of this operation: a find that lacks a virtue, its operation and outcome."""
    for plan, first in hunt.plans(operation):
        if best is not None and lines_of(plan) > best[0][0]:
            break
        found = hunt.outcomes(operation, plan, first)
        for outcome in found:
            is_better = best is None or found[outcome][:2] < best[0][:2]
            if is_better and lacks_any(outcome, chosen):
                best = (found[outcome], operation, outcome)
    return best
