"""Reading an expression (point 17) character by character."""

from heirsback.errors import BadExpression
from heirsback.spelling import BINARY_SIGNS, LONGEST_NAME, UNARY_SIGNS

MOST_OPENED = 100


class Phrase:
    """A text, how far it is read, and the parts that are found so far."""

    def __init__(self, text):
        self._text = text
        self._at = 0
        # What each open parenthesis waits for: "(" for a sign behind the left operand; else for the
        # end, and it holds the sign.
        self._waiting = []
        self._found = []

    def take_all(self):
        """The parts of the text, which must be one expression: (sign, label, class), in the order of execution."""
        operand_follows = True
        while operand_follows or self._waiting:
            if operand_follows:
                operand_follows = self._take_start()
            elif self._waiting[-1] == "(":
                self._waiting[-1] = self._take_sign()
                operand_follows = True
            else:
                self._take(")")
                self._found.append((self._waiting.pop(), "", ""))
        if self._at < len(self._text):
            raise BadExpression(self._at)
        return list(self._found)

    def _take_start(self):
        """Takes a leaf, a request, or what opens; whether an operand must follow."""
        if self._letter() == "(":
            self._take_opening("(")
            return True
        if self._is_between("A", "Z"):
            name = self._take_class()
            self._take(".")
            self._found.append((self._take_request(), "", name))
            return False
        word = self._take_word()
        if self._letter() == "(" and word in UNARY_SIGNS:
            self._take_opening(word)
            return True
        self._take(":")
        self._found.append(("", word, self._take_class()))
        return False

    def _take_opening(self, kind):
        if len(self._waiting) == MOST_OPENED:
            raise BadExpression(self._at)
        self._take("(")
        self._waiting.append(kind)

    def _take_sign(self):
        self._take(" ")
        # No two signs begin alike.
        for sign in BINARY_SIGNS:
            if sign[0] == self._letter():
                for letter in sign:
                    self._take(letter)
                self._take(" ")
                return sign
        raise BadExpression(self._at)

    def _take_class(self):
        if not self._is_between("A", "Z"):
            raise BadExpression(self._at)
        start = self._at
        self._at += 1
        self._skip_small(start + LONGEST_NAME)
        return self._text[start:self._at]

    def _take_word(self):
        start = self._at
        self._skip_small(start + LONGEST_NAME)
        if self._at == start:
            raise BadExpression(self._at)
        return self._text[start:self._at]

    def _take_request(self):
        word = self._take_word()
        if word in UNARY_SIGNS:
            raise BadExpression(self._at)
        return word

    def _skip_small(self, end):
        while self._at < end and self._is_between("a", "z"):
            self._at += 1

    def _take(self, letter):
        if self._letter() != letter:
            raise BadExpression(self._at)
        self._at += 1

    def _letter(self):
        """The next character; nothing at the end."""
        return self._text[self._at:self._at + 1]

    def _is_between(self, low, high):
        return low <= self._letter() <= high
