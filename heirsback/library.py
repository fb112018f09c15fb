"""Libraries (points 5 and 6): one class, the root, and the operations that make new values of it."""

from heirsback.errors import BadLibrary, BadMaker, NoSign
from heirsback.spelling import BINARY_SIGNS, MAKERS, ROOT_HOOKS, UNARY_SIGNS
from heirsback.spelling import arity_of, is_class_name, is_field_name, is_request

MOST_PARAMETERS = 3
MOST_KEPT = 2
MOST_OPERATIONS = 6


class Library:
    """The root and its operations. Nothing changes a library once it is made."""

    def __init__(self, name, root_parameters, kept, root_hook, operations):
        self.name = name
        self.root_parameters = tuple(root_parameters)
        self.kept = tuple(kept)
        self.root_hook = root_hook
        self._operations = tuple(operations)
        self._signs = tuple([operation[0] for operation in operations])
        self._changed = {sign: changed for sign, changed, _ in operations}
        self._maker = {sign: maker for sign, _, maker in operations}
        lines = _root_lines(name, root_parameters, kept, root_hook)
        lines.extend([_operation_line(sign, changed, maker) for sign, changed, maker in operations])
        self._text = "\n".join(lines)

    @classmethod
    def read(cls, text):
        """The library that the text describes."""
        if not isinstance(text, str):
            raise BadLibrary(-1)
        rows = [line.split(" ") for line in text.split("\n")]
        if not _is_first_row(rows[0]):
            raise BadLibrary(0)
        parameters = _parameters_of(rows[1:1 + MOST_PARAMETERS])
        if not parameters:
            raise BadLibrary(1)
        at = 1 + len(parameters)
        kept = _kept_of(rows[at:at + MOST_KEPT], parameters)
        at = at + len(kept)
        root_hook = None
        if at < len(rows) and _is_hook_row(rows[at]):
            root_hook = rows[at][1]
            at = at + 1
        return cls(rows[0][1], parameters, kept, root_hook, _operations_of(rows, at, parameters, root_hook))

    @staticmethod
    def makers(arity, *, hook=True):
        """All makers for operations of this arity, in the order of point 6."""
        return [maker for maker in MAKERS[arity] if hook or maker != "hook"]

    def signs(self):
        """All signs in the order of the text."""
        return list(self._signs)

    def arity(self, sign):
        """The number of operands: 0 for a request."""
        self._check(sign)
        return arity_of(sign)

    def changed(self, sign):
        """The parameters that get new numbers, in the order of the root."""
        self._check(sign)
        return self._changed[sign]

    def maker_of(self, sign):
        """The maker of the operation, as in the text."""
        self._check(sign)
        return self._maker[sign]

    def with_maker(self, sign, maker):
        """A new library that differs in the maker of this operation at most."""
        self._check(sign)
        if maker not in Library.makers(arity_of(sign), hook=self.root_hook is not None):
            raise BadMaker(maker)
        operations = []
        for told, changed, before in self._operations:
            operations.append((told, changed, maker if told == sign else before))
        return Library(self.name, self.root_parameters, self.kept, self.root_hook, operations)

    def _check(self, sign):
        if sign not in self:
            raise NoSign(sign)

    def __contains__(self, x):
        return x in self._signs

    def __iter__(self):
        return iter(self._signs)

    def __len__(self):
        return len(self._signs)

    def __str__(self):
        return str(self._text)

    def __eq__(self, other):
        return isinstance(other, Library) and self._text == other._text


def _root_lines(name, parameters, kept, hook):
    """The lines before the operations. They can be told again, since nothing can be written in two ways."""
    lines = [f"library {name}"]
    lines.extend([f"needs {field}" for field in parameters])
    lines.extend([f"keeps {field} of {source}" for field, source in kept])
    if hook is not None:
        lines.append(f"hook {hook}")
    return lines


def _operation_line(sign, changed, maker):
    if arity_of(sign) == 0:
        return f"make {sign} by {maker}"
    words = [sign]
    if changed:
        words = [sign, "changes", *changed]
    return " ".join([*words, "by", maker])


def _is_first_row(row):
    return len(row) == 2 and row[0] == "library" and is_class_name(row[1])


def _is_hook_row(row):
    return len(row) == 2 and row[0] == "hook" and row[1] in ROOT_HOOKS


def _parameters_of(rows):
    """The parameters of the rows before the first that is no right `needs` line."""
    found = []
    for row in rows:
        if len(row) != 2 or row[0] != "needs" or not is_field_name(row[1]) or row[1] in found:
            break
        found.append(row[1])
    return found


def _kept_of(rows, parameters):
    """The kept fields of the rows before the first that is no right `keeps` line, with their sources."""
    known = list(parameters)
    found = []
    for row in rows:
        if len(row) != 4 or row[0] != "keeps" or row[2] != "of":
            break
        if not is_field_name(row[1]) or row[1] in known or row[3] not in known:
            break
        known.append(row[1])
        found.append((row[1], row[3]))
    return found


def _operations_of(rows, start, parameters, root_hook):
    """The operations of the rows from this one on, each with its sign, changed parameters and maker."""
    if start == len(rows):
        raise BadLibrary(start)
    found = []
    for at in range(start, len(rows)):
        operation = _operation_of(rows[at], parameters)
        if operation is None or len(found) == MOST_OPERATIONS:
            raise BadLibrary(at)
        sign, _, maker = operation
        if sign in [known[0] for known in found] or (maker == "hook" and root_hook is None):
            raise BadLibrary(at)
        found.append(operation)
    return found


def _operation_of(row, parameters):
    """The sign, changed parameters and maker of one row; None if this is no operation."""
    if row[0] == "make":
        return _request_of(row, parameters)
    if (row[0] not in BINARY_SIGNS and row[0] not in UNARY_SIGNS) or "by" not in row:
        return None
    end = row.index("by")
    maker = " ".join(row[end + 1:])
    changed = row[2:end]
    if maker not in MAKERS[arity_of(row[0])] or not _is_selection(row[1:end], parameters):
        return None
    return row[0], tuple(changed), maker


def _request_of(row, parameters):
    """The same for a row that begins with `make`; a request changes all parameters."""
    if len(row) < 3 or row[2] != "by" or not is_request(row[1]):
        return None
    maker = " ".join(row[3:])
    if maker not in MAKERS[0]:
        return None
    return row[1], tuple(parameters), maker


def _is_selection(words, parameters):
    """Whether this is nothing, or `changes` and some parameters in their order."""
    if not words:
        return True
    chosen = words[1:]
    if words[0] != "changes" or not chosen:
        return False
    return chosen == [field for field in parameters if field in chosen]
