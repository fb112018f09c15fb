"""The classes of a chain, each one the base of the next, as far as they make a difference to outcomes.

What is counted here decides what becomes of a call (fact 29), and which fields get stale (fact 30).
"""

from heirsback.spelling import arity_of


class Operation:
    """One operation of a library. Nothing changes it once it is made."""

    def __init__(self, library, sign):
        self.sign = sign
        self.many_operands = arity_of(sign)
        self.new_fields = library.changed(sign)
        way, _, target = library.maker_of(sign).partition(" ")
        self.way = way
        self.target = target


class Link:
    """One class of a chain. Nothing changes it once it is made.

    A rule is a field, and the field that it is kept of or tied to; the number of a fixed field is no matter.
    Sets of rules are integers: the rule at index k counts 1 << k.
    """

    def __init__(self, at, free, needs, takes, is_wider, hook, rules, masks):
        # The place in the chain, 0 for the root.
        self.at = at
        # The root's parameters that are parameters still.
        self.free = free
        # The numbers of added parameters without and with a default, and of both.
        self.needs = needs
        self.takes = takes
        self.many_added = needs + takes
        # Whether there are fields that the root does not have.
        self.is_wider = is_wider
        # The place and the word of the hook, or None.
        self.hook = hook
        self.ruled = rules
        # The rules of fields that the root has, and those of its parameters among them.
        self.root_mask, self.parameter_mask = masks

    def touched(self, changed):
        """The rules whose field, or what it is kept of or tied to, is one of these parameters."""
        found = 0
        for at, (field, source) in enumerate(self.ruled):
            if field in changed or source in changed:
                found |= 1 << at
        return found

    def heir(self, members):
        """The class below with these members."""
        free = self.free
        needs, takes, is_wider, hook = self.needs, self.takes, self.is_wider, self.hook
        rules = list(self.ruled)
        root_mask, parameter_mask = self.root_mask, self.parameter_mask
        for member in members:
            kind = member[0]
            if kind in ("fixes", "ties"):
                free = tuple([field for field in free if field != member[1]])
                root_mask |= 1 << len(rules)
                parameter_mask |= 1 << len(rules)
                rules.append((member[1], member[2] if kind == "ties" else ""))
            elif kind == "hook":
                hook = (self.at + 1, member[1])
            else:
                is_wider = True
                needs += 1 if kind == "needs" else 0
                takes += 1 if kind == "takes" else 0
                if kind == "keeps":
                    rules.append(("", member[1]))
        return Link(self.at + 1, free, needs, takes, is_wider, hook, tuple(rules), (root_mask, parameter_mask))


def root_link(library):
    """The root of a chain."""
    hook = None if library.root_hook is None else (0, library.root_hook)
    root_mask = (1 << len(library.kept)) - 1
    return Link(0, library.root_parameters, 0, 0, False, hook, library.kept, (root_mask, 0))


def chain_of(library, plan):
    """The classes of the plan's world, the root first."""
    chain = [root_link(library)]
    for members in plan:
        chain.append(chain[-1].heir(members))
    return chain


def way_on(operation, link):
    """The way of the operation on this class, the left operand's or the asked one; its target; the place of its row."""
    if operation.way == "hook":
        place, word = link.hook
        return word, "own", place
    return operation.way, operation.target, 0
