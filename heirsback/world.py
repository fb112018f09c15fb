"""Worlds (points 7 and 8): a library and the heirs of its root."""

from heirsback.draft import Draft
from heirsback.errors import BadWorld, NoClass
from heirsback.spelling import LICENCES


class World:
    """A library and heirs. Nothing changes a world once it is made."""

    def __init__(self, library, lines, shapes, used):
        self.library = library
        self._lines = tuple(lines)
        self._shapes = dict(shapes)
        self._heirs = tuple(list(shapes)[1:])
        self._used = dict(used)

    @classmethod
    def read(cls, library, text):
        """The world of this library that the text describes."""
        if not isinstance(text, str):
            raise BadWorld(-1)
        lines = text.split("\n") if text != "" else []
        draft = Draft(library)
        for at, line in enumerate(lines):
            if not draft.take(line.split(" ")):
                raise BadWorld(at)
        return cls(library, lines, draft.shapes, draft.used)

    @classmethod
    def of(cls, library, *lines):
        """The world of this library that the lines describe."""
        return cls.read(library, "\n".join(lines))

    @property
    def lines(self):
        """The number of lines of the text."""
        return len(self._lines)

    def names(self):
        """All class names, the root's first, in the order of the text."""
        return list(self._shapes)

    def licences(self):
        """The licences that the world uses, in the order of point 22."""
        return [licence for licence in LICENCES if licence in self._used]

    def base(self, name):
        """The name of the base; None for the root."""
        lineage = self._shape(name).lineage
        return lineage[1] if len(lineage) > 1 else None

    def belongs(self, one, other):
        """Whether the class one belongs to the class other."""
        below, above = self._shape(one), self._shape(other)
        return above.lineage[0] in below.lineage

    def nearest(self, one, other):
        """The lowest class to which both belong."""
        first, second = self._shape(one), self._shape(other)
        return [name for name in first.lineage if name in second.lineage][0]

    def parameters(self, name):
        """The parameters, each with its default or None."""
        shape = self._shape(name)
        return [(field, None) for field in shape.free] + shape.more

    def fields(self, name):
        """The fields, the root's first."""
        return list(self._shape(name).held)

    def added(self, name):
        """The parameters that the root does not have."""
        return [field for field, _ in self._shape(name).more]

    def rules(self, name):
        """How the constructor sets the fields that are no parameters, the root's rules first."""
        return list(self._shape(name).ruled)

    def hook_of(self, name):
        """The place and the word of the hook; None if there is none."""
        return self._shape(name).hook

    def _shape(self, name):
        if name not in self:
            raise NoClass(name)
        return self._shapes[name]

    def __contains__(self, x):
        return isinstance(x, str) and x in self._shapes

    def __len__(self):
        return len(self._heirs)

    def __str__(self):
        return "\n".join(self._lines)

    def __eq__(self, other):
        return isinstance(other, World) and self.library == other.library and self._lines == other._lines
