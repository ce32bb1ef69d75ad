"""Plays: scripts that are carried out with the means of a scope."""

from bindspan.errors import Failed, NoEngine, UnknownName
from bindspan.scopes import ENGINES
from bindspan.scripts import check_script


def play(module, script, scope, *, engines=()):
    """Carries out the script with the scope. Returns the tuple of the events of its run."""
    check_script(module, script)
    for name in module.bound:
        if name not in scope:
            raise UnknownName(name)
    for engine in engines:
        if not isinstance(engine, str) or engine not in ENGINES:
            raise NoEngine(engine)
    before = scope.engine
    player = Player(module, scope, list(engines))
    try:
        scope.apart(player.anew(lambda inner: player.make_moves(script)))
    finally:
        scope.engine = before
    return tuple(player.events)


class Hand:
    """What is known of a move: its number, and the reactions that are left for the callbacks that it runs."""

    def __init__(self, number, reactions):
        self.number = number
        self.reactions = list(reactions)[::-1]


class Player:
    """A play that goes on. Failures are errors, so that the scope is left as by any error."""

    def __init__(self, module, scope, engines):
        self.bound = module.bound
        self.defaults = {ident: module.part(ident)[2] for ident in module.bound}
        self.funcs = {ident: module.part(ident)[3] for ident in module.idents("func")}
        self.scope = scope
        self.engines = engines
        # The kept actions of the slots that are not empty.
        self.slots = {}
        self.events = []
        # How many moves have begun, and the one whose rows are running.
        self.begun = 0
        self.hand = None

    def make_moves(self, script):
        """Makes the moves of a script."""
        for kind, target, bindings, reactions in script:
            self._make_move(kind, target, bindings, reactions)

    def acting(self, rows):
        """The action that runs the rows."""
        # The blocks that need the scope are run here and not by functions of their own, because Python bounds the
        # depth of calls, and blocks lie in blocks, functions and reactions.
        def act(scope):
            for row in rows:
                if row[0] == "apart":
                    scope.apart(self.anew(self.acting(row[1])))
                elif row[0] == "bind":
                    scope.during({row[1]: self.word_of(row[2])}, self.acting(row[3]))
                else:
                    action = ACTIONS[row[0]]
                    action(self, row)

        return act

    def word_of(self, worth):
        """The word that a bind gives."""
        how, what = worth
        return what if how == "word" else self.scope[what]

    def anew(self, action):
        """The action that, in the root, runs another one in the default environment."""
        return lambda root: root.during(self.defaults, action)

    def react(self, number):
        """Has the caller's callback with this number do what the present move has for it."""
        self.turn()
        self.events.append(("ran", number, tuple([self.scope[ident] for ident in self.bound])))
        if self.hand.reactions:
            script, ending = self.hand.reactions.pop()
            self.make_moves(script)
            if ending == "raise":
                raise Failed()

    def turn(self):
        """Sets the engine for the next event."""
        if self.engines:
            self.scope.use(self.engines[len(self.events) % len(self.engines)])

    def _make_move(self, kind, target, bindings, reactions):
        """Makes one move."""
        before = self.hand
        hand = Hand(self.begun, reactions)
        self.begun += 1
        self.hand = hand
        ending = "return"
        try:
            self.scope.during(bindings, self.acting(((kind, target),)))
        except Failed:
            ending = "raise"
        self.hand = before
        self.turn()
        self.events.append(("end", hand.number, ending))


def _look(player, row):
    player.turn()
    player.events.append(("look", row[1], player.scope.look(row[2])))


def _call(player, row):
    action = player.acting(player.funcs[row[1]])
    action(player.scope)


def _keep(player, row):
    player.slots[row[1]] = player.scope.keep(player.acting(player.funcs[row[2]]), row[3])


def _take(player, row):
    number = player.hand.number
    player.slots[row[1]] = player.scope.keep(lambda inner: player.react(number), row[2])


def _shift(player, row):
    kept = player.slots.pop(row[1], None)
    if kept is not None:
        player.slots[row[2]] = kept.also(row[3])


def _run(player, row):
    kept = player.slots.get(row[1])
    # A kept action without captured names is false as a condition.
    if kept is not None:
        kept()


def _drop(player, row):
    player.slots.pop(row[1], None)


def _when(player, row):
    rows = row[2] if player.scope[row[1]] == "on" else row[3]
    action = player.acting(rows)
    action(player.scope)


def _held(player, row):
    rows = row[2] if row[1] in player.slots else row[3]
    action = player.acting(rows)
    action(player.scope)


def _fail(player, row):
    raise Failed()


def _guard(player, row):
    action = player.acting(row[2])
    try:
        first = player.acting(row[1])
        first(player.scope)
    except Failed:
        pass
    else:
        return
    action(player.scope)


ACTIONS = {
    "look": _look, "call": _call, "keep": _keep, "take": _take, "shift": _shift, "run": _run, "drop": _drop,
    "when": _when, "held": _held, "fail": _fail, "guard": _guard,
}
