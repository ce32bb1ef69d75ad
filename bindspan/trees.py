"""Well formed parts as trees: what they bind and name, and how they are rebuilt."""

from bindspan.forms import IDENTS, STATEMENTS, roles_of, rows_of


def bound_names(parts):
    """The tuple of the identifiers of names and flags, in the order of declaration."""
    return tuple([part[1] for part in parts if part[0] in ("name", "flag")])


def named(statement):
    """The list of the identifiers that the statement itself names, in the order of the tuple, each behind its role."""
    rows = []
    for role, item in zip(STATEMENTS[statement[0]], statement[1:]):
        if role in IDENTS:
            rows.append((role, item))
        elif role == "worth" and item[0] == "of":
            rows.append((role, item[1]))
        elif role == "captured":
            rows.extend([(role, ident) for ident in item])
    return rows


def in_order(parts):
    """The parts with each with list in the order of declaration."""
    bound = bound_names(parts)

    def ordered(role, item):
        return tuple([ident for ident in bound if ident in item]) if role == "captured" else item

    return tuple([rebuilt(part, ordered) for part in parts])


def rebuilt(node, change):
    """The part or statement with change(role, item) in place of each item that is no rows, at every depth."""
    items = [_rebuilt_item(role, item, change) for role, item in zip(roles_of(node[0]), node[1:])]
    return (node[0], *items)


def _rebuilt_item(role, item, change):
    """What stands in place of an item of a part or statement."""
    if role == "rows":
        return tuple([rebuilt(row, change) for row in item])
    return change(role, item)


def replaced(node, path, rows):
    """The parts, or what lies in them, with these rows in place of the one item at the path.

    The path is a tuple of indexes. Each is an index into the tuple to which those before it lead.
    """
    at = path[0]
    inner = rows if len(path) == 1 else (replaced(node[at], path[1:], rows),)
    return (*node[:at], *inner, *node[at + 1:])


def words_in(parts):
    """The list of the words that are defaults of names, or that binds give to names."""
    words = [part[2] for part in parts if part[0] == "name"]
    names = [part[1] for part in parts if part[0] == "name"]
    waiting = [row for part in parts for rows in rows_of(part) for row in rows]
    while waiting:
        row = waiting.pop()
        if row[0] == "bind" and row[1] in names and row[2][0] == "word":
            words.append(row[2][1])
        waiting.extend([inner for rows in rows_of(row) for inner in rows])
    return words
