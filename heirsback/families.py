"""Licences and families (points 22 to 24): what heirs may do."""

from heirsback.errors import BadFamily
from heirsback.world import World


class Family:
    """A set of licences. Nothing changes a family once it is made."""

    LICENCES = ("needs", "takes", "fixes", "ties", "keeps", "named", "call", "names", "renew", "copy")

    def __init__(self, words):
        for word in words:
            if word not in Family.LICENCES:
                raise BadFamily(word)
        self.words = tuple([licence for licence in Family.LICENCES if licence in words])

    @classmethod
    def of(cls, *words):
        """The family with these licences."""
        return cls(words)

    @classmethod
    def used_by(cls, world):
        """The smallest family to which the world belongs."""
        return cls(world.licences())

    def is_within(self, other):
        """Whether the other family has all these licences."""
        return all([licence in other.words for licence in self.words])

    def __and__(self, other):
        return Family([licence for licence in self.words if licence in other.words])

    def __or__(self, other):
        return Family([*self.words, *other.words])

    def __sub__(self, other):
        return Family([licence for licence in self.words if licence not in other.words])

    def __contains__(self, x):
        if isinstance(x, World):
            return all([licence in self.words for licence in x.licences()])
        return x in self.words

    def __iter__(self):
        return iter(self.words)

    def __len__(self):
        return len(self.words)

    def __bool__(self):
        return bool(self.words)

    def __eq__(self, other):
        return isinstance(other, Family) and self.words == other.words

    def __repr__(self):
        return f"Family({', '.join(self.words)})"
