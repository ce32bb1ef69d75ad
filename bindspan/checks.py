"""The checks of parts, in two steps, and the keepings of parts."""

from bindspan.errors import BadTree, BadWord, Duplicate, OutOfOrder, Repeated, Unknown
from bindspan.forms import CHOICES, STATEMENTS, is_part
from bindspan.lines import beginnings
from bindspan.trees import in_order, named

# For each role of an identifier the kinds of the parts that it may name.
KINDS = {
    "name": ("name",),
    "flag": ("flag",),
    "bound": ("name", "flag"),
    "captured": ("name", "flag"),
    "slot": ("slot",),
    "func": ("func",),
}

# For each keeping the index of the slot that it fills.
FILLED = {"keep": 1, "take": 1, "shift": 2}


def check(parts):
    """Checks parts in both steps. Returns them with each with list in the order of declaration."""
    if not isinstance(parts, tuple):
        raise BadTree(-1)
    for place, part in enumerate(parts):
        if not is_part(part):
            raise BadTree(place)
    return check_names(parts, [row[0] for row in beginnings(parts)])


def keepings(parts):
    """For each keeping a tuple of its line, its first word, the slot that it fills, and its with list."""
    rows = []
    for line, node, _ in beginnings(in_order(parts)):
        if node[0] in FILLED:
            rows.append((line, node[0], node[FILLED[node[0]]], node[-1]))
    return tuple(rows)


def check_names(parts, lines):
    """The second step, for well formed parts that begin, as their statements do, at these ascending lines.

    Returns the parts with each with list in the order of declaration.
    """
    declared = {}
    statements = []
    for line, (_, node, path) in zip(lines, beginnings(parts)):
        if node[0] in STATEMENTS:
            statements.append((line, node, path[0]))
        elif node[1] in declared:
            raise Duplicate(line, node[1])
        else:
            declared[node[1]] = (node[0], path[0])
    for line, statement, place in statements:
        _check_known(line, statement, declared)
        _check_word(line, statement, declared)
        _check_repeated(line, statement)
        _check_order(line, statement, place, declared)
    return in_order(parts)


def _check_known(line, statement, declared):
    """Refuses an identifier that is not declared as one of the kinds that may stand at its place."""
    for role, ident in named(statement):
        # The second identifier of a bind has the kind of the first, which was found before.
        kinds = declared[statement[1]][:1] if role == "worth" else KINDS[role]
        if ident not in declared or declared[ident][0] not in kinds:
            raise Unknown(line, ident)


def _check_word(line, statement, declared):
    """Refuses a word that a flag cannot have."""
    if statement[0] != "bind" or declared[statement[1]][0] != "flag":
        return
    how, word = statement[2]
    if how == "word" and word not in CHOICES["switch"]:
        raise BadWord(line, word)


def _check_repeated(line, statement):
    """Refuses a with list that has an identifier more than once."""
    if statement[0] not in FILLED:
        return
    captured = statement[-1]
    for at, ident in enumerate(captured):
        if ident in captured[:at]:
            raise Repeated(line, ident)


def _check_order(line, statement, place, declared):
    """Refuses a function or slot that is not declared above what it has to stand above."""
    first = statement[0]
    if first in ("call", "run"):
        ident, below = statement[1], place
    elif first == "keep":
        ident, below = statement[2], declared[statement[1]][1]
    elif first == "shift":
        ident, below = statement[1], declared[statement[2]][1]
    else:
        return
    if declared[ident][1] >= below:
        raise OutOfOrder(line, ident)
