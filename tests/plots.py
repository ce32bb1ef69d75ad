"""A maker of small random modules in which much can happen: with few names, and with many runs and keepings."""

import random

from bindspan.captures import Captures
from bindspan.edits import without
from bindspan.modules import Module

VERBS = "look run run run take take keep keep shift shift bind bind call drop apart when held guard fail".split()
BLOCKS = ("bind", "apart", "when", "held", "guard")


class Plot:
    """One random module as parts."""

    def __init__(self, seed, names=1, flags=0, slots=2, funcs=3, size=3, deep=2):
        self.dice = random.Random(seed)
        self.names = ["x", "y", "z"][:names]
        self.flags = ["p", "q"][:flags]
        self.size, self.deep = size, deep
        kinds = ["slot"] * slots + ["func"] * funcs
        self.dice.shuffle(kinds)
        self.order = [(kind, f"{kind[0]}{kinds[:at].count(kind)}") for at, kind in enumerate(kinds)]
        self.place = {ident: at for at, (_, ident) in enumerate(self.order)}
        parts = [("name", name, self.dice.choice(["a", "b"])) for name in self.names]
        parts += [("flag", flag, self.dice.choice(["on", "off"])) for flag in self.flags]
        for at, (kind, ident) in enumerate(self.order):
            if kind == "slot":
                parts.append((kind, ident, self.dice.choice(["open", "own"])))
            else:
                parts.append((kind, ident, self.dice.choice(["open", "open", "own"]), self.rows(at, 0)))
        self.parts = tuple(parts)

    def idents(self, kind, below=None):
        return [ident for one, ident in self.order[:below] if one == kind]

    def rows(self, place, blocks):
        rows = [self.row(place, blocks) for _ in range(self.dice.randrange(1, self.size + 1))]
        return tuple([row for row in rows if row is not None])

    def second_rows(self, place, blocks):
        return self.rows(place, blocks) if self.dice.randrange(2) else ()

    def captured(self):
        return tuple([ident for ident in self.names + self.flags if self.dice.randrange(2)])

    def row(self, place, blocks):
        verb = self.dice.choice(VERBS)
        if verb in BLOCKS and blocks >= self.deep:
            verb = self.dice.choice(["look", "run", "take"])
        return getattr(self, "make_" + verb)(place, blocks + 1)

    def pick(self, found, make):
        return make(self.dice.choice(found)) if found else None

    def make_look(self, place, blocks):
        return ("look", self.dice.choice(["t", "u"]), self.dice.choice(self.names))

    def make_run(self, place, blocks):
        return self.pick(self.idents("slot", place), lambda slot: ("run", slot))

    def make_take(self, place, blocks):
        return self.pick(self.idents("slot"), lambda slot: ("take", slot, self.captured()))

    def make_keep(self, place, blocks):
        def keep(slot):
            return self.pick(self.idents("func", self.place[slot]), lambda func: ("keep", slot, func, self.captured()))
        return self.pick(self.idents("slot"), keep)

    def make_shift(self, place, blocks):
        slots = self.idents("slot")
        if len(slots) < 2:
            return None
        return ("shift", *sorted(self.dice.sample(slots, 2), key=self.place.get), self.captured())

    def make_bind(self, place, blocks):
        if self.flags and self.dice.randrange(3) == 0:
            worth = self.dice.choice([("word", "on"), ("word", "off"), ("of", self.dice.choice(self.flags))])
            return ("bind", self.dice.choice(self.flags), worth, self.rows(place, blocks))
        worth = self.dice.choice([("word", self.dice.choice("abc")), ("of", self.dice.choice(self.names))])
        return ("bind", self.dice.choice(self.names), worth, self.rows(place, blocks))

    def make_call(self, place, blocks):
        return self.pick(self.idents("func", place), lambda func: ("call", func))

    def make_drop(self, place, blocks):
        return self.pick(self.idents("slot"), lambda slot: ("drop", slot))

    def make_apart(self, place, blocks):
        return ("apart", self.rows(place, blocks))

    def make_when(self, place, blocks):
        def when(flag):
            return ("when", flag, self.rows(place, blocks), self.second_rows(place, blocks))
        return self.pick(self.flags, when)

    def make_held(self, place, blocks):
        def held(slot):
            return ("held", slot, self.rows(place, blocks), self.second_rows(place, blocks))
        return self.pick(self.idents("slot"), held)

    def make_guard(self, place, blocks):
        return ("guard", self.rows(place, blocks), self.second_rows(place, blocks))

    def make_fail(self, place, blocks):
        return ("fail",)


def plotted(seed, **sizes):
    """A module with at most 60 lines."""
    while True:
        module = Module(Plot(seed, **sizes).parts)
        if len(module) <= 60:
            return module
        seed += 100003


def statement_lines(module):
    """The lines at which statements begin."""
    kinds = ("name", "flag", "slot", "func")
    rows = [(line, module.spot(line)[0]) for line in range(1, len(module) + 1)]
    return [line for line, node in rows if node is not None and node[0] not in kinds]


def near(module, seed):
    """Some modules that differ from this one by a little."""
    dice = random.Random(seed)
    pairs = [(at, ident) for at in range(len(module.keepings)) for ident in module.bound if dice.randrange(2)]
    lines = statement_lines(module)
    rows = [module.bare(), module.full(), module.with_captures(Captures(pairs))]
    return rows + [without(module, line) for line in dice.sample(lines, min(3, len(lines)))]
