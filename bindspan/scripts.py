"""Scripts, which describe callers: their form, their moves in the order of writing, their size."""

from bindspan.errors import BadScript
from bindspan.forms import CHOICES
from bindspan.words import is_word

ENDINGS = ("return", "raise")


def check_script(module, script):
    """Refuses a value of any kind that is no script for the module."""
    if not _is_row(script):
        raise BadScript(0)
    number = 0
    waiting = list(script)[::-1]
    while waiting:
        move = waiting.pop()
        if not _is_move(module, move):
            raise BadScript(number)
        number += 1
        waiting.extend(_inner_moves(move)[::-1])


def walk(script):
    """Each move of the script in the order of writing, behind its level."""
    waiting = [(0, move) for move in list(script)[::-1]]
    while waiting:
        level, move = waiting.pop()
        yield (level, move)
        waiting.extend([(level + 1, inner) for inner in _inner_moves(move)[::-1]])


def count_moves(script):
    """The number of all moves of the script."""
    return len(list(walk(script)))


def depth_of(script):
    """How deep the moves of the script lie inside reactions."""
    return max([level for level, _ in walk(script)], default=0)


def fits_binding(module, key, value):
    """Whether a move can bind this string to this value of any kind."""
    if key not in module.bound:
        return False
    if key in module.idents("name"):
        return is_word(value)
    return isinstance(value, str) and value in CHOICES["switch"]


def _inner_moves(move):
    """The list of the moves in the reactions of a move, without those inside their reactions."""
    return [inner for script, _ in move[3] for inner in script]


def _is_row(value):
    """Whether a value of any kind is a list or a tuple."""
    return isinstance(value, (list, tuple))


def _is_move(module, value):
    """Whether a value of any kind is a move for the module, whatever the moves in its reactions are."""
    if not isinstance(value, tuple) or len(value) != 4:
        return False
    kind, target, bindings, reactions = value
    if not isinstance(kind, str) or not isinstance(target, str) or (kind, target) not in module.targets:
        return False
    if not isinstance(bindings, dict) or not _is_row(reactions):
        return False
    fitting = all([fits_binding(module, key, worth) for key, worth in bindings.items()])
    return fitting and all([_is_reaction(reaction) for reaction in reactions])


def _is_reaction(value):
    """Whether a value of any kind is a reaction, whatever the moves in it are."""
    if not isinstance(value, tuple) or len(value) != 2 or not _is_row(value[0]):
        return False
    return isinstance(value[1], str) and value[1] in ENDINGS
