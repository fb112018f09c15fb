"""The heirs that are tried (fact 31): chains of heirs, each one below the one before, with few members.

A plan is a tuple of heirs, an heir a tuple of members, a member a tuple of words without what makes no
difference: the name of a new field and the number. So ("takes",) stands for a line `takes F N`.
"""

from heirsback.spelling import HEIR_HOOKS, LETTERS

# Only where values are made without a constructor does it matter what a field is kept of or tied to.
WITHOUT_CONSTRUCTOR = ("copy", "bare")
# A hook with one of these words passes the parameters of its place to classes below.
WITH_PLACE = ("call", "names")


def licence_of(member):
    """The licence that the member uses."""
    return member[1] if member[0] == "hook" else member[0]


def lines_of(plan):
    """The lines of the plan's world."""
    return sum([1 + len(heir) for heir in plan])


def licences_of(plan):
    """The licences that the plan's world uses."""
    return [licence_of(member) for heir in plan for member in heir]


def heirs(free, sources, words, has_default):
    """The heirs of a class with these parameters of the root, and of the root's parameters to keep fields of.

    Without sources, no fields are kept and a parameter is tied to one other parameter only.
    """
    removals = [("fixes", field) for field in free]
    for field in free:
        others = [other for other in free if other != field]
        removals.extend([("ties", field, other) for other in (others if sources else others[:1])])
    additions = [("takes",)] if has_default else [("needs",), ("takes",)]
    additions.extend([("keeps", field) for field in sources])
    removals = [member for member in removals if member[0] in words]
    additions = [member for member in additions if member[0] in words]
    found = [()]
    found.extend([(member,) for member in removals + additions])
    found.extend([(removal, addition) for removal in removals for addition in additions])
    return found


def short_plans(parameters, words, hook, is_full, has_twin):
    """Plans of one heir, with a hook of this word unless it is None, and perhaps one more below without members."""
    above = () if hook is None else (("hook", hook),)
    found = []
    for heir in heirs(parameters, parameters if is_full else (), words, False):
        found.append(((*above, *heir),))
        if has_twin:
            found.append(((*above, *heir), ()))
    return found


def long_plans(parameters, words, hook, has_twin):
    """Plans of an heir with the hook and at most one other member, one below it with members, and perhaps one more."""
    found = []
    for first in heirs(parameters, (), words, False):
        if len(first) > 1:
            continue
        gone = [member[1] for member in first if len(member) > 1]
        free = [field for field in parameters if field not in gone]
        for second in heirs(free, (), words, ("takes",) in first):
            if second:
                found.append(((("hook", hook), *first), second))
                if has_twin:
                    found.append(((("hook", hook), *first), second, ()))
    return found


def allowed_hooks(words):
    """The words of the hooks that heirs may have."""
    return [word for word in HEIR_HOOKS if word in words]


def text_of(library, plan):
    """The text of the plan's world."""
    taken = [*library.root_parameters, *[field for field, _ in library.kept]]
    names = [letter.upper() for letter in LETTERS if letter.upper() != library.name]
    fields = [letter for letter in LETTERS if letter not in taken]
    lines = []
    above = library.name
    number = 0
    for at, heir in enumerate(plan):
        lines.append(f"heir {names[at]} of {above}")
        above = names[at]
        for member in heir:
            number += 1
            lines.append(_line(member, fields[number], number))
    return "\n".join(lines)


def _line(member, field, number):
    kind = member[0]
    if kind == "hook":
        return f"hook {member[1]}"
    if kind == "fixes":
        return f"fixes {member[1]} {number}"
    if kind == "ties":
        return f"ties {member[1]} to {member[2]}"
    if kind == "keeps":
        return f"keeps {field} of {member[1]}"
    if kind == "takes":
        return f"takes {field} {number}"
    return f"needs {field}"
