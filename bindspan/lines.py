"""The lines of the canonical text of well formed parts, and what begins at them."""

from bindspan.forms import DIVIDERS, STATEMENTS, rows_of


def laid_out(parts):
    """The list of the lines, each as a tuple of its text, what begins at it, and the index of its part.

    What begins is a part or a statement, and None at the lines else, after and end.
    """
    lines = []
    for place, part in enumerate(parts):
        lines.extend([(text, node, place) for text, node in _part_lines(part)])
    return lines


def beginnings(parts):
    """The list of the lines at which a part or statement begins: the number, what begins, the index of its part."""
    rows = []
    for number, (_, node, place) in enumerate(laid_out(parts), start=1):
        if node is not None:
            rows.append((number, node, place))
    return rows


def _part_lines(part):
    """The texts of the lines of a part, each with what begins at it."""
    kind, ident, worth = part[:3]
    if kind in ("name", "flag"):
        return [(f"{kind} {ident} = {worth}", part)]
    lines = [(f"{worth} {kind} {ident}", part)]
    if kind == "func":
        lines.extend(_rows_lines(part[3], 1))
        lines.append(("end", None))
    return lines


def _rows_lines(rows, level):
    """The texts of the lines of rows at this level, each with what begins at it."""
    lines = []
    for statement in rows:
        lines.extend(_statement_lines(statement, level))
    return lines


def _statement_lines(statement, level):
    """The texts of the lines of a statement at this level, each with what begins at it."""
    indent = "  " * level
    lines = [(indent + _first_line(statement), statement)]
    blocks = rows_of(statement)
    if not blocks:
        return lines
    lines.extend(_rows_lines(blocks[0], level + 1))
    if len(blocks) == 2 and blocks[1]:
        lines.append((indent + DIVIDERS[statement[0]], None))
        lines.extend(_rows_lines(blocks[1], level + 1))
    lines.append((indent + "end", None))
    return lines


def _first_line(statement):
    """The first line of a statement without its indentation."""
    words = [statement[0]]
    for role, item in zip(STATEMENTS[statement[0]], statement[1:]):
        words.extend(_words_of(role, item))
    return " ".join(words)


def _words_of(role, item):
    """The words that stand for an item of a statement in its first line."""
    if role == "rows":
        return []
    if role == "worth":
        return ["=", *item] if item[0] == "of" else ["=", item[1]]
    if role == "captured":
        return ["with", *item] if item else []
    return [item]
