"""Words and identifiers."""

LETTERS = "abcdefghijklmnopqrstuvwxyz"
DIGITS = "0123456789"
LONGEST_WORD = 12
KEPT_WORDS = (
    "name", "flag", "slot", "func", "open", "own", "look", "bind", "call", "keep", "take", "shift", "run",
    "drop", "apart", "when", "held", "fail", "guard", "else", "after", "end", "with", "of", "on", "off",
)


def is_word(value):
    """Whether a value of any kind is a word."""
    if not isinstance(value, str) or not 1 <= len(value) <= LONGEST_WORD:
        return False
    return all([sign in LETTERS or sign in DIGITS for sign in value])


def is_ident(value):
    """Whether a value of any kind is an identifier."""
    return is_word(value) and value[0] in LETTERS and value not in KEPT_WORDS
