"""What modules do when they are run, in the plainest way, for the tests of edits; and makers of random callers."""

import random


class Failure(Exception):
    """A failure inside a move."""


class Runner:
    """One run of a module for a script."""

    def __init__(self, parts, script):
        self.parts = {part[1]: part for part in parts}
        self.defaults = {part[1]: part[2] for part in parts if part[0] in ("name", "flag")}
        self.slots = {}
        self.events = []
        self.begun = 0
        self.moves(script, self.defaults)

    def moves(self, script, around):
        for kind, target, bindings, reactions in script:
            number, ending = self.begun, "return"
            self.begun += 1
            setting = {**around, **bindings}
            present = (number, iter(reactions))
            try:
                self.rows([(kind, target)], setting, present)
            except Failure:
                ending = "raise"
            self.events.append(("end", number, ending))

    def rows(self, rows, env, present):
        for row in rows:
            getattr(self, "do_" + row[0])(env, present, *row[1:])

    def do_look(self, env, present, tag, name):
        self.events.append(("look", tag, env[name]))

    def do_bind(self, env, present, ident, worth, rows):
        word = worth[1] if worth[0] == "word" else env[worth[1]]
        self.rows(rows, {**env, ident: word}, present)

    def do_call(self, env, present, func):
        self.rows(self.parts[func][3], env, present)

    def do_keep(self, env, present, slot, func, captured):
        self.slots[slot] = (func, {ident: env[ident] for ident in captured})

    def do_take(self, env, present, slot, captured):
        self.slots[slot] = (present[0], {ident: env[ident] for ident in captured})

    def do_shift(self, env, present, slot, slot2, captured):
        if slot in self.slots:
            code, capture = self.slots.pop(slot)
            self.slots[slot2] = (code, {**{ident: env[ident] for ident in captured}, **capture})

    def do_run(self, env, present, slot):
        if slot not in self.slots:
            return
        code, capture = self.slots[slot]
        inner = {**env, **capture}
        if isinstance(code, str):
            self.rows(self.parts[code][3], inner, present)
            return
        self.events.append(("ran", code, tuple(inner[ident] for ident in self.defaults)))
        script, ending = next(present[1], ((), "return"))
        self.moves(script, inner)
        if ending == "raise":
            raise Failure

    def do_drop(self, env, present, slot):
        self.slots.pop(slot, None)

    def do_apart(self, env, present, rows):
        self.rows(rows, self.defaults, present)

    def do_when(self, env, present, flag, rows, rows2):
        self.rows(rows if env[flag] == "on" else rows2, env, present)

    def do_held(self, env, present, slot, rows, rows2):
        self.rows(rows if slot in self.slots else rows2, env, present)

    def do_fail(self, env, present):
        raise Failure

    def do_guard(self, env, present, rows, rows2):
        try:
            self.rows(rows, env, present)
            return
        except Failure:
            pass
        self.rows(rows2, env, present)


def events_of(parts, script):
    """The list of the events of the run."""
    return Runner(parts, script).events


class Caller:
    """Makes random scripts for a module."""

    def __init__(self, module, seed):
        self.dice = random.Random(seed)
        self.targets = module.targets
        self.names = module.idents("name")
        self.flags = module.idents("flag")
        self.words = 0

    def script(self, most, depth):
        if not self.targets:
            return ()
        return tuple([self.move(depth) for _ in range(self.dice.randrange(most + 1))])

    def move(self, depth):
        bindings = {}
        for ident in self.names:
            if self.dice.randrange(3):
                self.words += 1
                bindings[ident] = f"w{self.words}"
        for ident in self.flags:
            if self.dice.randrange(3):
                bindings[ident] = self.dice.choice(["on", "off"])
        reactions = []
        if depth:
            reactions = [(self.script(2, depth - 1), self.dice.choice(["return", "raise"])) for _ in range(2)]
        return (*self.dice.choice(self.targets), bindings, reactions)
