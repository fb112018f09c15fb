"""Reading a world (point 7) line by line."""

from heirsback.shape import heir_shape, root_shape
from heirsback.spelling import is_class_name, is_field_name

MOST_HEIRS = 8
MOST_MEMBERS = 8
FIELD_MEMBERS = ("needs", "takes", "keeps")


class Draft:
    """What the lines so far tell: the shapes by their names, and the licences that they use."""

    def __init__(self, library):
        root = root_shape(library)
        self.shapes = {library.name: root}
        self.used = {}
        self._known = {field: True for field in root.held}
        self._latest = None
        self._many_members = 0

    def take(self, words):
        """Adds what one line tells; False if it is not as it must be there."""
        if words[0] == "heir":
            return self._take_heir(words)
        if self._latest is None or self._many_members == MOST_MEMBERS or not self._take_member(words):
            return False
        self._many_members += 1
        return True

    def _take_heir(self, words):
        if len(words) != 4 or words[2] != "of" or len(self.shapes) > MOST_HEIRS:
            return False
        name, base = words[1], words[3]
        if not is_class_name(name) or name in self.shapes or base not in self.shapes:
            return False
        self._latest = heir_shape(name, self.shapes[base])
        self.shapes[name] = self._latest
        self._many_members = 0
        return True

    def _take_member(self, words):
        if words[0] in FIELD_MEMBERS and not self._is_new(words):
            return False
        if not self._latest.take(words):
            return False
        if words[0] in FIELD_MEMBERS:
            self._known[words[1]] = True
        licence = words[1] if words[0] == "hook" else words[0]
        self.used[licence] = True
        return True

    def _is_new(self, words):
        return len(words) > 1 and is_field_name(words[1]) and words[1] not in self._known
