"""The lines of the canonical text of well formed parts, and what begins at them."""

from bindspan.forms import DIVIDERS, STATEMENTS, rows_of


def laid_out(parts):
    """The list of the lines, each as a tuple of its text, what begins at it, and the path to that.

    What begins is a part or a statement. At the lines else, after and end it is None, and the path is that of the
    function or block. The path of a part is its index; that of a statement goes on from the function or block with
    the index of the rows and the index in the rows.
    """
    lines = []
    for place, part in enumerate(parts):
        lines.extend(_part_lines(part, (place,)))
    return lines


def beginnings(parts):
    """The list of the lines at which a part or statement begins: the number, what begins, and the path to it."""
    rows = []
    for number, (_, node, path) in enumerate(laid_out(parts), start=1):
        if node is not None:
            rows.append((number, node, path))
    return rows


def level_at(path):
    """The level of the line that begins what stands at the path."""
    return len(path) // 2


def _part_lines(part, path):
    """The lines of the part at the path, as laid_out gives them."""
    kind, ident, worth = part[:3]
    if kind in ("name", "flag"):
        return [(f"{kind} {ident} = {worth}", part, path)]
    lines = [(f"{worth} {kind} {ident}", part, path)]
    if kind == "func":
        lines.extend(_rows_lines(part[3], (*path, 3)))
        lines.append(("end", None, path))
    return lines


def _rows_lines(rows, path):
    """The lines of the rows at the path."""
    lines = []
    for at, statement in enumerate(rows):
        lines.extend(_statement_lines(statement, (*path, at)))
    return lines


def _statement_lines(statement, path):
    """The lines of the statement at the path."""
    indent = "  " * level_at(path)
    lines = [(indent + _first_line(statement), statement, path)]
    blocks = rows_of(statement)
    if not blocks:
        return lines
    first = len(statement) - len(blocks)
    lines.extend(_rows_lines(blocks[0], (*path, first)))
    if len(blocks) == 2 and blocks[1]:
        lines.append((indent + DIVIDERS[statement[0]], None, path))
        lines.extend(_rows_lines(blocks[1], (*path, first + 1)))
    lines.append((indent + "end", None, path))
    return lines


def _first_line(statement):
    """The first line of a statement without its indentation."""
    words = [statement[0]]
    for role, item in zip(STATEMENTS[statement[0]], statement[1:]):
        words.extend(_words_of(role, item))
    return " ".join(words)


def _words_of(role, item):
    """The words that stand for an item of a statement in its first line."""
    if role == "rows":
        return []
    if role == "worth":
        return ["=", *item] if item[0] == "of" else ["=", item[1]]
    if role == "captured":
        return ["with", *item] if item else []
    return [item]
