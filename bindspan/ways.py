"""The scripts of what a search has found.

They are scripts as they are for callers, but each move has in place of its bindings what the rules of the search tell.
"""

from bindspan.scripts import depth_of
from bindspan.searches import NO_REST, WHOLE

# With a greater bound on the depth, a search without a bound comes first: it has fewer situations to look at.
GREAT_DEPTH = 1


class Draft:
    """The moves of a script, the last of which may be under way."""

    def __init__(self):
        self.moves = []
        self.head = None
        self.reactions = []
        self.inner = []

    def begin(self, head):
        """Begins a move."""
        self.head = head
        self.reactions = []

    def include(self, moves):
        """Has whole moves made, by the callback that is run if a move is under way."""
        if self.head is None:
            self.moves.extend(moves)
        else:
            self.inner.extend(moves)

    def react(self, ending):
        """Ends the callback that is run."""
        self.reactions.append((tuple(self.inner), ending))
        self.inner = []

    def end(self):
        """Ends the move that is under way."""
        self.moves.append((*self.head, tuple(self.reactions)))
        self.head = None


def ways_of(search, goals):
    """For each of the goals that the search has found a script that meets it by as few moves as the search knows."""
    return {goal: _moves(search, WHOLE, search.found[goal][1]) for goal in goals if goal in search.found}


def within_depth(seek, depth):
    """What seek(depth) returns: scripts of at most this depth by their goals. None is no bound."""
    if depth is None or depth <= GREAT_DEPTH:
        return seek(depth)
    ways = seek(None)
    if all([depth_of(way) <= depth for way in list(ways.values())]):
        return ways
    return seek(depth)


def _moves(search, bit, last):
    """The moves of an origin up to and with the last step."""
    drafts = [Draft()]
    for kind, node, number in _steps_to(search, bit, last):
        if kind == "dive":
            drafts.append(Draft())
        elif kind == "nest":
            drafts[-1].include(_edge(search, node, number))
        else:
            _take_row(search, drafts[-1], kind, node, number)
    inner = drafts.pop()
    if inner.head is not None:
        inner.end()
    while drafts:
        outer = drafts.pop()
        outer.include(inner.moves)
        outer.react("return")
        outer.end()
        inner = outer
    return tuple(inner.moves)


def _steps_to(search, bit, last):
    """The steps of an origin up to the last one, in their order."""
    steps = []
    step = last
    while step[0] != "first":
        steps.append(step)
        if step[0] == "start" and bit != WHOLE:
            break
        step = _step_to(search, bit, step[1])
    return steps[::-1]


def _step_to(search, bit, node):
    """The step by which an origin comes to the node."""
    return [step for bits, step in search.history[node] if bits & bit][0]


def _edge(search, node, there):
    """The one move that leads from the scene of the node to another scene."""
    _, scene = search.nodes.rows[node]
    bit = search.bits[scene]
    target = search.nodes.of_value((NO_REST, there))
    return _moves(search, bit, _step_to(search, bit, target))


def _take_row(search, draft, kind, node, number):
    """Takes the beginning of a move, or the end of a callback, into the draft."""
    if kind == "start":
        _, scene = search.nodes.rows[node]
        head, _, behind = search.start_rows_at(scene)[number]
        draft.begin(head)
    else:
        ending, _, behind = search.end_rows_at(node)[number]
        draft.react(ending)
    if behind is not None and search.nodes.rows[behind][0] == NO_REST:
        draft.end()
