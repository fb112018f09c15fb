"""Libraries and values that several tests use."""

from heirsback.library import Library
from heirsback.world import World

PAIR = """library Pair
needs x
needs y
keeps size of x
hook call
+ changes x y by call own
neg changes x by hook
pos by copy own
make zero by named"""

# Each kind of line as often as it may stand.
FULL_LINES = (
    "library Abcdefgh",
    "needs x",
    "needs abcdefgh",
    "needs z",
    "keeps size of z",
    "keeps wide of size",
    "hook bare",
    "+ changes x z by call own",
    "neg changes abcdefgh by hook",
    "make zero by named",
    "// by copy deeper",
    "invert by bare own",
    "make one by names own",
)

# As few lines as possible.
SMALL = "library A\nneeds b\n- by named"

# Values of every kind, none of which is a text that could be meant.
OTHER_VALUES = (
    0, 1, -1, 10 ** 29, 1 - 10 ** 30, True, False, None, "", " ", "x y", "x" * 3000, [], ["x"], [[]], (), ("x",),
    ("Pair", ["x"]), [None, (1, [2])], [[[[[[[["x"]]]]]]]], (((((((((),),),),),),),),), list(range(600)), ("Pair",) * 600,
)


def pair():
    return Library.read(PAIR)


def pair_world(*lines):
    return World.of(pair(), *lines)


def text_of(lines):
    return "\n".join(lines)


def replaced(lines, at, line):
    """The lines with another one at this place."""
    return [*lines[:at], line, *lines[at + 1:]]


def inserted(lines, at, *more):
    """The lines with additional ones at this place."""
    return [*lines[:at], *more, *lines[at:]]


def damages(line):
    """Texts that are never right where this line stands."""
    words = line.split(" ")
    return [
        "",
        " ",
        " " + line,
        line + " ",
        line.replace(" ", "  ", 1),
        "  ".join(line.rsplit(" ", 1)),
        line.replace(" ", "\t", 1),
        line.replace(" ", "", 1),
        line.swapcase(),
        " ".join(words[:-1]),
        " ".join(words[1:]),
        line + " x",
        line + " by",
        "x " + line,
        " ".join([words[0] + "s", *words[1:]]),
        " ".join(["x", *words[1:]]),
        line + "\r",
    ]
