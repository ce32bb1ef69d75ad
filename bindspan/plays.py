"""Plays: scripts that are carried out with the means of a scope.

Python bounds the depth of calls, and blocks lie in blocks, functions and reactions. So rows are not run inside of the
calls of during and apart that make their environment. They are kept in it, as an action that captures all bound names,
and what was kept is called when its turn has come.
"""

from bindspan.errors import NoEngine, UnknownName
from bindspan.scopes import ENGINES
from bindspan.scripts import check_script

# The rows that stand for the ending of a reaction behind those that stand for its moves.
ENDING_ROWS = {"return": (), "raise": (("fail",),)}

# The kinds of what is pending: rows, the second rows of a guard whose first rows are running, and the end of a move.
ROWS = "rows"
GUARD = "guard"
END = "end"


def play(module, script, scope, *, engines=()):
    """Carries out the script with the scope. Returns the tuple of the events of its run."""
    check_script(module, script)
    for name in module.bound:
        if name not in scope:
            raise UnknownName(name)
    for engine in engines:
        if not isinstance(engine, str) or engine not in ENGINES:
            raise NoEngine(engine)
    before = scope.engine
    player = Player(module, scope, list(engines))
    try:
        player.perform(script)
    finally:
        scope.engine = before
    return tuple(player.events)


class Hand:
    """What is known of a move: its number, the reactions that are left for the callbacks that it runs, and the hand of
    the move around it."""

    def __init__(self, number, reactions, outer):
        self.number = number
        self.reactions = list(reactions)[::-1]
        self.outer = outer


class Pending:
    """Rows that are still to be run in one environment, with the kept action that runs the next one."""

    def __init__(self, kind, rows):
        self.kind = kind
        self.rows = rows
        # How many of them have been run, or are running.
        self.begun = 0
        self.kept = None


class Player:
    """A play that goes on."""

    def __init__(self, module, scope, engines):
        self.bound = module.bound
        self.defaults = {ident: module.part(ident)[2] for ident in module.bound}
        self.funcs = {ident: module.part(ident)[3] for ident in module.idents("func")}
        self.scope = scope
        self.engines = engines
        # The kept actions of the slots that are not empty.
        self.slots = {}
        self.events = []
        # How many moves have begun, and the one whose rows are running.
        self.begun = 0
        self.hand = None
        # What is still to be run, the innermost last.
        self.pending = []

    def perform(self, script):
        """Makes the moves of the script."""
        self.put_anew(_rows_of(script))
        while self.pending:
            following = self.pending.pop()
            if following.kind == ROWS:
                following.kept()
            elif following.kind == END:
                self.end_move("return")

    def put(self, rows, kind=ROWS):
        """Has the rows run next, in the present environment."""
        # Rows that have nothing to run are still a guard, or the end of a move.
        if not rows and kind == ROWS:
            return
        pending = Pending(kind, rows)
        pending.kept = self.scope.keep(lambda inner: self._run_row(pending), self.bound)
        self.pending.append(pending)

    def put_anew(self, rows):
        """Has the rows run next, in the default environment."""
        self.scope.apart(lambda root: root.during(self.defaults, lambda inner: self.put(rows)))

    def react(self, number):
        """Has the caller's callback with this number do what the present move has for it."""
        self.add_event(("ran", number, tuple([self.scope[ident] for ident in self.bound])))
        if self.hand.reactions:
            script, ending = self.hand.reactions.pop()
            self.put((*_rows_of(script), *ENDING_ROWS[ending]))

    def add_event(self, event):
        """Adds an event that is no look."""
        self.turn()
        self.events.append(event)

    def turn(self):
        """Sets the engine for the next event."""
        if self.engines:
            self.scope.use(self.engines[len(self.events) % len(self.engines)])

    def fail(self):
        """Gives up what is running, up to the innermost guard or to the end of the move."""
        following = self.pending.pop()
        while following.kind == ROWS:
            following = self.pending.pop()
        if following.kind == END:
            self.end_move("raise")
        elif following.rows:
            following.kind = ROWS
            self.pending.append(following)

    def end_move(self, ending):
        """Ends the present move."""
        self.add_event(("end", self.hand.number, ending))
        self.hand = self.hand.outer

    def _run_row(self, pending):
        """Runs the next one of the rows."""
        row = pending.rows[pending.begun]
        pending.begun += 1
        if pending.begun < len(pending.rows):
            self.pending.append(pending)
        action = ACTIONS[row[0]]
        action(self, row)


def _rows_of(script):
    """The moves of a script as rows."""
    return tuple([("move", *move) for move in script])


def _move(player, row):
    _, kind, target, bindings, reactions = row
    player.hand = Hand(player.begun, reactions, player.hand)
    player.begun += 1
    player.put((), END)
    player.scope.during(bindings, lambda inner: player.put(((kind, target),)))


def _look(player, row):
    player.turn()
    player.events.append(("look", row[1], player.scope.look(row[2])))


def _bind(player, row):
    how, what = row[2]
    word = what if how == "word" else player.scope[what]
    player.scope.during({row[1]: word}, lambda inner: player.put(row[3]))


def _call(player, row):
    player.put(player.funcs[row[1]])


def _keep(player, row):
    rows = player.funcs[row[2]]
    player.slots[row[1]] = player.scope.keep(lambda inner: player.put(rows), row[3])


def _take(player, row):
    number = player.hand.number
    player.slots[row[1]] = player.scope.keep(lambda inner: player.react(number), row[2])


def _shift(player, row):
    kept = player.slots.pop(row[1], None)
    if kept is not None:
        player.slots[row[2]] = kept.also(row[3])


def _run(player, row):
    kept = player.slots.get(row[1])
    # A kept action without captured names is false as a condition.
    if kept is not None:
        kept()


def _drop(player, row):
    player.slots.pop(row[1], None)


def _apart(player, row):
    player.put_anew(row[1])


def _when(player, row):
    player.put(row[2] if player.scope[row[1]] == "on" else row[3])


def _held(player, row):
    player.put(row[2] if row[1] in player.slots else row[3])


def _fail(player, row):
    player.fail()


def _guard(player, row):
    player.put(row[2], GUARD)
    player.put(row[1])


ACTIONS = {
    "move": _move, "look": _look, "bind": _bind, "call": _call, "keep": _keep, "take": _take, "shift": _shift,
    "run": _run, "drop": _drop, "apart": _apart, "when": _when, "held": _held, "fail": _fail, "guard": _guard,
}
