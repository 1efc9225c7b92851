"""Which words are names in a library text (point 4)."""

SMALL = "abcdefghijklmnopqrstuvwxyz"
LARGE = "ABCDEFGHIJKLMNOPQRSTUVWXYZ"
LONGEST = 8
KEPT = (
    "door", "mark", "class", "one", "many", "open", "inner", "make", "if", "then", "else",
    "own", "held", "not", "all", "each", "drop", "raw", "self", "super", "ground",
)


def is_plain_name(word):
    """Return True if the word is the name of a door or a mark."""
    return 1 <= len(word) <= LONGEST and has_only(word, SMALL) and word not in KEPT


def is_class_name(word):
    """Return True if the word is the name of a class."""
    return 1 <= len(word) <= LONGEST and word[0] in LARGE and has_only(word[1:], SMALL)


def has_only(word, letters):
    """Return True if each character of the word is one of the letters."""
    return all([letter in letters for letter in word])
