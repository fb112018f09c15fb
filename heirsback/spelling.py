"""How names, numbers, signs and makers are written (points 4 and 6), and the words of hooks."""

LETTERS = "abcdefghijklmnopqrstuvwxyz"

LONGEST_NAME = 8
LONGEST_NUMBER = 3

NO_FIELDS = ("by", "changes", "name", "of", "to", "world")

BINARY_SIGNS = ("+", "-", "*", "//", "&", "|", "^", "<<", ">>")
UNARY_SIGNS = ("neg", "pos", "abs", "invert")

HEIR_HOOKS = ("named", "call", "names", "renew", "copy")
ROOT_HOOKS = ("named", "call", "names", "renew", "copy", "bare")

LICENCES = ("needs", "takes", "fixes", "ties", "keeps", "named", "call", "names", "renew", "copy")

# The index is the arity: requests, unary signs, binary signs.
MAKERS = (
    ("named", "call own", "names own", "bare own"),
    ("named", "call own", "names own", "renew own", "copy own", "bare own", "hook"),
    (
        "named",
        "call own", "call other", "call deeper", "call common",
        "names own", "names other", "names deeper", "names common",
        "renew own", "renew other", "renew deeper",
        "copy own", "copy other", "copy deeper",
        "bare own",
        "hook",
    ),
)


def _is_within(word, low, high):
    """Whether each character lies between these two: `islower` and `isdigit` would take others, too."""
    return all([low <= letter <= high for letter in word])


def is_small_word(word):
    """Whether this is one to eight small letters."""
    return 1 <= len(word) <= LONGEST_NAME and _is_within(word, "a", "z")


def is_class_name(word):
    """Whether this is a capital letter and at most seven small ones."""
    return 1 <= len(word) <= LONGEST_NAME and "A" <= word[0] <= "Z" and _is_within(word[1:], "a", "z")


def is_field_name(word):
    """Whether a field may be called so."""
    return is_small_word(word) and word not in NO_FIELDS


def is_request(word):
    """Whether a request may be called so."""
    return is_small_word(word) and word not in UNARY_SIGNS


def is_number(word):
    """Whether this is an integer from 0 to 999 without leading zeros."""
    if not 1 <= len(word) <= LONGEST_NUMBER or not _is_within(word, "0", "9"):
        return False
    return word == "0" or word[0] != "0"


def arity_of(sign):
    """The number of operands of a sign or request."""
    if sign in BINARY_SIGNS:
        return 2
    if sign in UNARY_SIGNS:
        return 1
    return 0
