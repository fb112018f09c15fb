"""The shape of one class of a world (point 8): where it stands, what its constructor takes and does."""

from heirsback.spelling import HEIR_HOOKS, is_number


class Shape:
    """One class. Only the reader of a world adds members to it; nothing changes it afterwards."""

    def __init__(self, lineage, free, more, held, ruled, hook):
        # The class itself, its base, the base's base and so on.
        self.lineage = tuple(lineage)
        # The root's parameters that are parameters still.
        self.free = list(free)
        # The added parameters, each with its default or None.
        self.more = list(more)
        # All fields.
        self.held = list(held)
        # The rules by which the constructor sets fields that are no parameters.
        self.ruled = list(ruled)
        # The place and the word of the hook, or None.
        self.hook = hook

    def take(self, words):
        """Adds the member that these words tell; False if the class must not have it."""
        if words[0] == "fixes":
            return self._take_fixed(words)
        if words[0] == "ties":
            return self._take_tied(words)
        if words[0] == "hook":
            return self._take_hook(words)
        return self._take_field(words)

    def _take_fixed(self, words):
        if len(words) != 3 or words[1] not in self.free or not is_number(words[2]):
            return False
        self.free.remove(words[1])
        self.ruled.append(("fixed", words[1], int(words[2])))
        return True

    def _take_tied(self, words):
        if len(words) != 4 or words[2] != "to" or words[1] == words[3]:
            return False
        if words[1] not in self.free or words[3] not in self.free:
            return False
        self.free.remove(words[1])
        self.ruled.append(("ties", words[1], words[3]))
        return True

    def _take_hook(self, words):
        name = self.lineage[0]
        if len(words) != 2 or words[1] not in HEIR_HOOKS:
            return False
        if self.hook is not None and self.hook[0] == name:
            return False
        self.hook = (name, words[1])
        return True

    def _take_field(self, words):
        """Adds a field that must be known to be new."""
        if words[0] == "needs" and len(words) == 2 and not self._has_default():
            self.more.append((words[1], None))
        elif words[0] == "takes" and len(words) == 3 and is_number(words[2]):
            self.more.append((words[1], int(words[2])))
        elif words[0] == "keeps" and len(words) == 4 and words[2] == "of" and words[3] in self.held:
            self.ruled.append(("keeps", words[1], words[3]))
        else:
            return False
        self.held.append(words[1])
        return True

    def _has_default(self):
        return any([default is not None for _, default in self.more])


def root_shape(library):
    """The shape of the root."""
    parameters = library.root_parameters
    held = [*parameters]
    held.extend([field for field, _ in library.kept])
    ruled = [("keeps", field, source) for field, source in library.kept]
    hook = None
    if library.root_hook is not None:
        hook = (library.name, library.root_hook)
    return Shape([library.name], parameters, [], held, ruled, hook)


def heir_shape(name, above):
    """The shape of an heir without members, of the class with the shape above."""
    return Shape([name, *above.lineage], above.free, above.more, above.held, above.ruled, above.hook)
