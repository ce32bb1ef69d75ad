"""The forms of parts and statements, as one table that checks, edits, writing and reading share."""

from bindspan.words import is_ident, is_word

MOST_BLOCKS = 8

# For each first word the roles of the items behind it. A role says what an item has to be, and of what kind
# the part is that an identifier names.
PARTS = {
    "name": ("ident", "word"),
    "flag": ("ident", "switch"),
    "slot": ("ident", "reach"),
    "func": ("ident", "reach", "rows"),
}
STATEMENTS = {
    "look": ("word", "name"),
    "bind": ("bound", "worth", "rows"),
    "call": ("func",),
    "keep": ("slot", "func", "captured"),
    "take": ("slot", "captured"),
    "shift": ("slot", "slot", "captured"),
    "run": ("slot",),
    "drop": ("slot",),
    "apart": ("rows",),
    "when": ("flag", "rows", "rows"),
    "held": ("slot", "rows", "rows"),
    "fail": (),
    "guard": ("rows", "rows"),
}

# The roles of items that are one identifier.
IDENTS = ("ident", "name", "flag", "bound", "slot", "func")

# The words that each role with a choice allows.
CHOICES = {"switch": ("on", "off"), "reach": ("open", "own")}

# The line ahead of the second rows of a block.
DIVIDERS = {"when": "else", "held": "else", "guard": "after"}


def roles_of(first):
    """The roles of the items behind this first word of a part or statement; None if there is no such word."""
    if first in PARTS:
        return PARTS[first]
    return STATEMENTS.get(first)


def rows_of(node):
    """The list of the rows of a part or statement: for most one or none, for some blocks two."""
    return [item for role, item in zip(roles_of(node[0]), node[1:]) if role == "rows"]


def is_part(value):
    """Whether a value of any kind is a well formed part."""
    return _is_headed(value) and value[0] in PARTS and fit(PARTS[value[0]], value[1:], 0)


def is_statement(value, blocks):
    """Whether a value of any kind is a well formed statement inside so many blocks."""
    # Without the bound on blocks, a value that is nested very deeply would end the recursion in an error.
    if blocks > MOST_BLOCKS or not _is_headed(value) or value[0] not in STATEMENTS:
        return False
    return fit(STATEMENTS[value[0]], value[1:], blocks + 1)


def fit(roles, values, blocks):
    """Whether the values have these roles, one each; rows among them lie inside so many blocks."""
    if len(roles) != len(values):
        return False
    return all([_fits(role, value, blocks) for role, value in zip(roles, values)])


def _is_headed(value):
    """Whether a value of any kind is a tuple that begins with a string."""
    return isinstance(value, tuple) and len(value) > 0 and isinstance(value[0], str)


def _fits(role, value, blocks):
    """Whether a value of any kind has the role."""
    if role == "rows":
        return isinstance(value, tuple) and all([is_statement(row, blocks) for row in value])
    if role == "captured":
        return isinstance(value, tuple) and all([is_ident(ident) for ident in value])
    if role == "worth":
        return _is_worth(value)
    if role == "word":
        return is_word(value)
    if role in CHOICES:
        return isinstance(value, str) and value in CHOICES[role]
    return is_ident(value)


def _is_worth(value):
    """Whether a value of any kind is well formed as the third item of a bind."""
    if not _is_headed(value) or len(value) != 2:
        return False
    if value[0] == "word":
        return is_word(value[1])
    return value[0] == "of" and is_ident(value[1])
