"""The order of declaration in well formed parts."""

from bindspan.forms import roles_of


def bound_names(parts):
    """The tuple of the identifiers of names and flags, in the order of declaration."""
    return tuple([part[1] for part in parts if part[0] in ("name", "flag")])


def in_order(parts):
    """The parts with each with list in the order of declaration."""
    bound = bound_names(parts)
    return tuple([_node_in_order(part, bound) for part in parts])


def _node_in_order(node, bound):
    """The part or statement with the with lists in it in order."""
    items = [_item_in_order(role, item, bound) for role, item in zip(roles_of(node[0]), node[1:])]
    return (node[0], *items)


def _item_in_order(role, item, bound):
    """The item of a part or statement with the with lists in it in order."""
    if role == "captured":
        return tuple([ident for ident in bound if ident in item])
    if role == "rows":
        return tuple([_node_in_order(row, bound) for row in item])
    return item
