"""Fixes: the smallest sets of captures that make a module behave like another one."""

from bindspan.captures import candidates
from bindspan.edits import without
from bindspan.errors import BadScript
from bindspan.forms import STATEMENTS
from bindspan.lines import beginnings
from bindspan.parting import check_comparable, parted
from bindspan.runs import run
from bindspan.scripts import check_script, depth_of


class Fix:
    """A chosen candidate, or None, with a script against each candidate before it."""

    def __init__(self, chosen, against):
        self.chosen = chosen
        self.against = tuple([(candidate, _copied(script)) for candidate, script in against])

    def __bool__(self):
        return self.chosen is not None

    def __len__(self):
        return len(self.against)


def fewest(module, wished, *, free=None, depth=None):
    """The fix for the module, the wished module and the free pairs."""
    pairs = _free_pairs(module, wished, free)
    against = []
    for candidate in candidates(pairs):
        script = parted(_with_candidate(module, pairs, candidate), wished, depth, False)
        if script is None:
            return Fix(candidate, against)
        against.append((candidate, script))
    return Fix(None, against)


def wrong_row(module, wished, fix, *, free=None, depth=None):
    """The index of the first wrong row of the fix; None if it is right."""
    pairs = _free_pairs(module, wished, free)
    rows = list(candidates(pairs))
    many = len(fix.against)
    for at, (candidate, script) in enumerate(fix.against):
        if at >= len(rows) or candidate != rows[at] or not _fits(module, script, depth):
            return at
        if not _parts(_with_candidate(module, pairs, candidate), wished, script):
            return at
    if fix.chosen is None:
        return None if many == len(rows) else many
    if many >= len(rows) or fix.chosen != rows[many]:
        return many
    script = parted(_with_candidate(module, pairs, fix.chosen), wished, depth, False)
    return None if script is None else many


def idle_lines(module, *, depth=None):
    """The lines of all statements without which the module is alike itself."""
    lines = [line for line, node, _ in beginnings(module.parts) if node[0] in STATEMENTS]
    return [line for line in lines if parted(module, without(module, line), depth, False) is None]


def _free_pairs(module, wished, free):
    """The free pairs. Refuses modules that cannot be compared, and pairs that the module cannot capture."""
    check_comparable(module, wished)
    if free is None:
        return module.full().captures
    module.with_captures(free)
    return free


def _with_candidate(module, free, candidate):
    """The module of a candidate."""
    return module.with_captures((module.captures - free) | candidate)


def _fits(module, script, depth):
    """Whether a value of any kind is a script for the module of at most this depth."""
    try:
        check_script(module, script)
    except BadScript:
        return False
    return depth is None or depth_of(script) <= depth


def _parts(module, wished, script):
    """Whether the script parts the modules."""
    return run(module, script).events != run(wished, script).events


def _copied(value):
    """A copy of a value of any kind, in which lists, tuples and dicts are copied at every depth."""
    if isinstance(value, list):
        return [_copied(item) for item in value]
    if isinstance(value, tuple):
        return tuple([_copied(item) for item in value])
    if isinstance(value, dict):
        return {key: _copied(item) for key, item in value.items()}
    return value
