"""Libraries and worlds that are drawn, all small worlds, and what steps do in a world, searched by hand."""

import itertools

from heirsback.errors import BadWorld
from heirsback.library import Library
from heirsback.steps import request, step
from heirsback.values import by_names
from heirsback.world import World

HOOKS = ("named", "call", "names", "renew", "copy")
SIGNS = {2: ("+", "-", "*"), 1: ("neg", "pos", "abs"), 0: ("zero", "one")}
LICENCES = ("needs", "takes", "fixes", "ties", "keeps", *HOOKS)


def operation(sign, arity, changes, maker):
    if arity == 0:
        return f"make {sign} by {maker}"
    return f"{sign}{' changes ' + ' '.join(changes) if changes else ''} by {maker}"


def drawn_library(rnd, many=None, parameters=None):
    """A library with up to three operations; many of them copy, leave out the constructor or use the hook."""
    fields = "xyz"[:parameters or rnd.randint(1, 3)]
    lines = ["library Root"] + [f"needs {field}" for field in fields]
    known = list(fields)
    for field in "uv"[:rnd.randint(0, 2)]:
        lines.append(f"keeps {field} of {rnd.choice(known)}")
        known.append(field)
    has_hook = rnd.random() < 0.7
    if has_hook:
        lines.append("hook " + rnd.choice(HOOKS + ("bare",)))
    pool = [(sign, arity) for arity in SIGNS for sign in SIGNS[arity]]
    for sign, arity in rnd.sample(pool, many or rnd.randint(1, 3)):
        maker = rnd.choice(Library.makers(arity, hook=has_hook))
        if arity and rnd.random() < 0.5:
            maker = rnd.choice(["copy own", "bare own"] + ["hook"] * has_hook)
        lines.append(operation(sign, arity, [field for field in fields if rnd.random() < 0.5], maker))
    return Library.read("\n".join(lines))


def members(library, lines, at):
    """All members that a line might tell at this place, a name and number of its own in each."""
    parameters = library.root_parameters
    field = f"f{'abcdefghijklmnopqrstuvwxyz'[at % 26]}{'abcdefghijklmnopqrstuvwxyz'[at // 26]}"
    known = [*parameters, *[name for name, _ in library.kept]]
    known += [line.split()[1] for line in lines if line.split()[0] in ("needs", "takes", "keeps")]
    found = [f"needs {field}", f"takes {field} {at + 1}"]
    found += [f"keeps {field} of {source}" for source in known]
    found += [f"fixes {one} {at + 1}" for one in parameters]
    found += [f"ties {one} to {other}" for one, other in itertools.permutations(parameters, 2)]
    return found + [f"hook {word}" for word in HOOKS]


def is_world(library, lines):
    try:
        World.of(library, *lines)
    except BadWorld:
        return False
    return True


def licence_of(line):
    """The licence that a line needs; None for the line of an heir."""
    words = line.split()
    return None if words[0] == "heir" else words[words[0] == "hook"]


def small_worlds(library, most, words=LICENCES):
    """All worlds of up to this many lines that use these licences only, but for names and numbers."""
    found = [[]]
    latest = [[]]
    for at in range(most):
        longer = []
        for lines in latest:
            classes = [library.name] + [line.split()[1] for line in lines if line.startswith("heir")]
            more = [f"heir {'ABCDEFGH'[len(classes) - 1]} of {base}" for base in classes]
            more += [line for line in members(library, lines, at) if licence_of(line) in words]
            longer += [lines + [line] for line in more]
        latest = [lines for lines in longer if is_world(library, lines)]
        found += latest
    return [World.of(library, *lines) for lines in found]


def drawn_world(rnd, library, most=5):
    """A world of some heirs with up to four members each."""
    lines = []
    classes = [library.name]
    for at in range(rnd.randint(1, most)):
        name = "ABCDEFGH"[at]
        lines.append(f"heir {name} of {classes[-1] if rnd.random() < 0.7 else rnd.choice(classes)}")
        classes.append(name)
        for _ in range(rnd.choice((0, 1, 1, 2, 2, 3, 4))):
            line = rnd.choice(members(library, lines, len(lines)))
            if is_world(library, [*lines, line]):
                lines.append(line)
    return World.of(library, *lines)


def values_of(world):
    """The least number of steps for each state, and a value in it: states are combined until nothing gets cheaper."""
    library = world.library
    found = {}
    number = 1000

    def offer(value, price):
        if value is None or (value.state in found and found[value.state][0] <= price):
            return False
        found[value.state] = (price, value)
        return True

    for name in world.names():
        fields = [field for field, _ in world.parameters(name)]
        offer(by_names(world, name, **{field: number + at for at, field in enumerate(fields)}), 0)
        number += len(fields)
    changed = True
    while changed:
        changed = False
        for sign, operands, price in tries(world, found):
            made = one_step(world, sign, operands, number).value
            number += 3
            changed = offer(made, price) or changed
    return found


def tries(world, found):
    """Each sign on each of these values: the sign, the operands or the asked class, and the number of steps."""
    rows = list(found.values())
    for sign in world.library:
        arity = world.library.arity(sign)
        if arity == 0:
            for name in world.names():
                yield sign, name, 1
        else:
            for operands in itertools.product(rows, repeat=arity):
                yield sign, [value for _, value in operands], 1 + sum(price for price, _ in operands)


def one_step(world, sign, operands, number):
    if isinstance(operands, str):
        return request(world, sign, operands, start=number)
    return step(world, sign, *operands, start=number)


def outcomes_of(world):
    """For each sign and outcome the fewest steps in this world."""
    found = {}
    for sign, operands, price in tries(world, values_of(world)):
        outcome = one_step(world, sign, operands, 10 ** 6).outcome
        key = (sign, outcome)
        found[key] = min(price, found.get(key, price))
    return found


def lacks_of(outcome):
    return ("runs",) if outcome[0] == "fails" else outcome[1]
