"""What tells two libraries apart (point 28)."""

from heirsback.duel import Duel
from heirsback.errors import Unlike
from heirsback.links import Operation
from heirsback.plans import WITH_PLACE, allowed_hooks, lines_of, long_plans, short_plans, text_of
from heirsback.world import World


class Parting:
    """Two worlds with the same text, and an expression whose runs differ. Nothing changes it once it is made."""

    def __init__(self, one, other, expression):
        self.one = one
        self.other = other
        self.expression = expression


def check_comparable(one, other):
    """Raises an error unless the libraries differ in makers and in the hook line at most."""
    if one.name != other.name:
        raise Unlike(0)
    if one.root_parameters != other.root_parameters:
        raise Unlike(1)
    if one.kept != other.kept:
        raise Unlike(2)
    if one.signs() != other.signs():
        raise Unlike(3)
    if any([one.changed(sign) != other.changed(sign) for sign in one]):
        raise Unlike(4)


def parted(one, other, family):
    """Worlds of the family and an expression whose runs tell the libraries apart; None if there are none."""
    check_comparable(one, other)
    libraries = (one, other)
    signs = [sign for sign in one if _is_unlike(sign, libraries)]
    operations = {sign: tuple([Operation(library, sign) for library in libraries]) for sign in one}
    best = None
    for plan in sorted(_plans(libraries, operations, signs, family.words), key=lines_of):
        if best is not None and lines_of(plan) > best.one.lines:
            break
        worlds = [World.read(library, text_of(library, plan)) for library in libraries]
        expression = Duel(worlds, plan, operations).least_expression(signs)
        if expression is not None and (best is None or len(expression) < len(best.expression)):
            best = Parting(worlds[0], worlds[1], expression)
    return best


def _is_unlike(sign, libraries):
    """Whether the makers of the operation differ; where both are hooks, the root's hook is what differs."""
    one, other = libraries
    if one.maker_of(sign) == "hook" and other.maker_of(sign) == "hook":
        return one.root_hook != other.root_hook
    return one.maker_of(sign) != other.maker_of(sign)


def _plans(libraries, operations, signs, words):
    """The plans in which one of these signs may tell the libraries apart for the fewest lines."""
    if not signs:
        return []
    parameters = libraries[0].root_parameters
    has_pairs = any([operations[sign][0].many_operands == 2 for sign in signs])
    found = [(), *short_plans(parameters, words, None, True, has_pairs)]
    hooked = [sign for sign in operations if "hook" in [operation.way for operation in operations[sign]]]
    if any([operations[sign][0].way != operations[sign][1].way for sign in hooked]):
        for word in allowed_hooks(words):
            found.extend(short_plans(parameters, words, word, True, has_pairs or word == "named"))
            if word in WITH_PLACE:
                found.extend(long_plans(parameters, words, word, has_pairs))
    elif hooked and "copy" in words:
        # Where all hooks are alike, they serve to make values with stale fields only.
        found.extend(short_plans(parameters, words, "copy", True, has_pairs))
    return found
