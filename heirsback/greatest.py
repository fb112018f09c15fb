"""Breakers and greatest families (point 26). Sets of licences are integers: the licence at index k counts 1 << k."""

from heirsback.families import Family
from heirsback.hunt import Hunt
from heirsback.plans import licences_of
from heirsback.spelling import LICENCES
from heirsback.virtues import check_virtues, lacks_any


def breakers(library, virtues):
    """The families that are not served, while each smaller one is."""
    return _families(_breaking(library, check_virtues(virtues)))


def greatest(library, virtues):
    """The families that are served, while no greater one is."""
    breaking = _breaking(library, check_virtues(virtues))
    served = [not any([chosen & one == one for one in breaking]) for chosen in range(1 << len(LICENCES))]
    found = []
    for chosen in range(1 << len(LICENCES)):
        more = [chosen | 1 << at for at in range(len(LICENCES)) if not chosen & 1 << at]
        if served[chosen] and not any([served[greater] for greater in more]):
            found.append(chosen)
    return _families(found)


def _breaking(library, chosen):
    """The smallest sets of licences that a world uses in which a step lacks one of the virtues."""
    found = []
    hunt = Hunt(library, LICENCES)
    for operation in hunt.operations:
        for plan, first in hunt.plans(operation):
            used = licences_of(plan)
            needed = sum([1 << at for at, licence in enumerate(LICENCES) if licence in used])
            if any([needed & one == one for one in found]):
                continue
            if any([lacks_any(outcome, chosen) for outcome in hunt.outcomes(operation, plan, first)]):
                found = [one for one in found if needed & one != needed]
                found.append(needed)
    return found


def _families(found):
    """The families with these sets of licences, in the order of the indexes of their licences."""
    rows = [tuple([at for at in range(len(LICENCES)) if chosen & 1 << at]) for chosen in found]
    return [Family([LICENCES[at] for at in row]) for row in sorted(rows)]
