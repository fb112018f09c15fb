"""Libraries with one operation, and steps told in short words."""

from heirsback.library import Library
from heirsback.values import Value, by_position
from heirsback.world import World

# Classes beside and below each other, with more, fewer and tied parameters.
HEIRS = (
    "heir Low of Pair", "takes tag 7",
    "heir Deep of Low", "takes more 8",
    "heir Side of Pair", "keeps echo of y",
    "heir Need of Pair", "needs id",
    "heir Tied of Pair", "ties y to x",
    "heir Fixed of Pair", "fixes x 5",
)
# The numbers by which each class is called; the tens tell the classes apart.
NUMBERS = {
    "Pair": (91, 92), "Low": (1, 2, 3), "Deep": (11, 12, 13, 14), "Side": (21, 22), "Need": (31, 32, 33), "Tied": (41,),
    "Fixed": (52,),
}


def library_of(*operations, hook=None):
    hooks = [] if hook is None else [f"hook {hook}"]
    return Library.read("\n".join(["library Pair", "needs x", "needs y", "keeps size of x", *hooks, *operations]))


def world_of(*operations, hook=None, heirs=HEIRS):
    return World.of(library_of(*operations, hook=hook), *heirs)


def made(world, *names):
    """A value of each of these classes."""
    return [by_position(world, name, *NUMBERS[name]) for name in names]


def valued(world, name, *numbers):
    """A value with these numbers for the fields in their order; None leaves a field out."""
    fields = world.fields(name)
    return Value(world, name, {field: number for field, number in zip(fields, numbers) if number is not None})


def told(step):
    """The class of the result, its numbers, its fates and what the step lacks; or the reason why it fails."""
    if step.value is None:
        return step.outcome[1]
    fates = step.fates()
    numbers = step.value.numbers()
    if list(fates) != list(numbers) or step.outcome[0] != "makes":
        raise AssertionError("the fates are those of the present fields, in their order")
    rows = [f"{field}={numbers[field]} {fates[field][0]} {fates[field][1]}" for field in numbers]
    return step.value.name, ", ".join(rows), " ".join(step.outcome[1])
