"""Whether some caller can tell two modules apart, and the smallest script that does."""

from bindspan.errors import NotComparable
from bindspan.rivals import PARTED, Rivals
from bindspan.scripts import count_moves
from bindspan.searches import Search
from bindspan.settings import Wording
from bindspan.trees import words_in
from bindspan.ways import ways_of, within_depth


def parting(first, second, *, depth=None):
    """A smallest script of at most this depth that parts the two modules; None if they are alike."""
    check_comparable(first, second)
    return parted(first, second, depth, True)


def alike(first, second, *, depth=None):
    """Whether no script of at most this depth parts the two modules."""
    check_comparable(first, second)
    return parted(first, second, depth, False) is None


def check_comparable(first, second):
    """Refuses two modules that have not the same interface."""
    if _bound_parts(first) != _bound_parts(second):
        raise NotComparable("names")
    for kind, what in (("call", "functions"), ("run", "slots")):
        if _reached(first, kind) != _reached(second, kind):
            raise NotComparable(what)


def parted(first, second, depth, smallest):
    """A script that parts two modules with the same interface, one of the smallest or any; None if they are alike."""
    if first == second:
        return None
    ways = within_depth(lambda level: _searched((first, second), level, smallest), depth)
    return Wording((first, second)).worded(ways[PARTED]) if ways else None


def _searched(modules, level, smallest):
    """The script that parts the modules by the goal; nothing if there is none."""
    ways = {}
    for reds in (None, *_reds(modules)):
        if ways and not smallest:
            break
        search = Search(Rivals(modules, level, reds))
        search.go((PARTED,), count_moves(ways[PARTED]) if ways else None)
        found = ways_of(search, (PARTED,))
        if found and (not ways or count_moves(found[PARTED]) < count_moves(ways[PARTED])):
            ways = found
    return ways


def _reds(modules):
    """Rows of words of the modules such that for each two words some row has just one of them."""
    words = sorted(set([word for module in modules for word in words_in(module.parts)]))
    return [
        [word for at, word in enumerate(words) if at >> bit & 1] for bit in range((len(words) - 1).bit_length())
    ]


def _bound_parts(module):
    """The names and flags of a module with their defaults, in the order of declaration."""
    return [part for part in module.parts if part[1] in module.bound]


def _reached(module, kind):
    """What a move of this kind can reach, in an order that does not depend on the declarations."""
    return sorted([target for way, target in module.targets if way == kind])
