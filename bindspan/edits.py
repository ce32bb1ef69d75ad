"""Edits: modules that come of another one by one small step."""

from bindspan.errors import BadIdent, InUse, NoStatement, NotCall, NotWrapped, Taken, TooDeep
from bindspan.forms import IDENTS, STATEMENTS, is_statement
from bindspan.lines import beginnings, level_at
from bindspan.modules import Module
from bindspan.trees import named, rebuilt, replaced
from bindspan.words import is_ident


def without(module, line):
    """The module without the part or statement that begins at the line."""
    node, path = module.spot(line)
    if node is None:
        raise NoStatement(line)
    if node[0] not in STATEMENTS:
        _check_unused(module, path[0])
    return Module(replaced(module.parts, path, ()))


def unwrapped(module, line):
    """The module with the rows of the bind or apart at the line in its place."""
    node, path = module.spot(line)
    if node is None or node[0] not in ("bind", "apart"):
        raise NotWrapped(line)
    return Module(replaced(module.parts, path, node[-1]))


def inlined(module, line):
    """The module with the rows of the function that is called at the line in place of the call."""
    node, path = module.spot(line)
    if node is None or node[0] != "call":
        raise NotCall(line)
    rows = module.part(node[1])[3]
    blocks = level_at(path) - 1
    # These rows are well formed where they are, so nothing but their depth can be wrong at the new place.
    if not all([is_statement(row, blocks) for row in rows]):
        raise TooDeep(line)
    return Module(replaced(module.parts, path, rows))


def outlined(module, line, ident):
    """The module with the statement at the line in a function of its own, and a call of it in its place."""
    statement = module.statement(line)
    _check_new(module, ident)
    _, path = module.spot(line)
    place = path[0]
    parts = replaced(module.parts, path, (("call", ident),))
    return Module((*parts[:place], ("func", ident, "own", (statement,)), *parts[place:]))


def renamed(module, old, new):
    """The module in which the part old has the identifier new."""
    # Refuses an identifier that no part has.
    module.part(old)
    _check_new(module, new)

    def swapped(ident):
        return new if ident == old else ident

    def change(role, item):
        if role in IDENTS:
            return swapped(item)
        if role == "captured":
            return tuple([swapped(ident) for ident in item])
        if role == "worth" and item[0] == "of":
            return ("of", swapped(item[1]))
        return item

    return Module(tuple([rebuilt(part, change) for part in module.parts]))


def _check_unused(module, place):
    """Refuses to give up the part with this index if a statement outside of it names its identifier."""
    ident = module.parts[place][1]
    for line, node, path in beginnings(module.parts):
        outside = path[0] != place and node[0] in STATEMENTS
        if outside and ident in [other for _, other in named(node)]:
            raise InUse(line, ident)


def _check_new(module, ident):
    """Refuses what cannot be the identifier of a further part."""
    if not is_ident(ident):
        raise BadIdent(ident)
    if ident in [part[1] for part in module.parts]:
        raise Taken(ident)
