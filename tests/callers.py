"""All callers of a module, one after the other, as scripts of which every move and reaction is used."""

import itertools

from tests.runner import Failure, Runner


class Choices:
    """A row of choices, and from each row to the next one until every row was there."""

    def __init__(self):
        self.rows = []
        self.at = 0

    def pick(self, many):
        if self.at == len(self.rows):
            self.rows.append([0, many])
        self.at += 1
        return self.rows[self.at - 1][0]

    def step(self):
        self.at = 0
        while self.rows:
            self.rows[-1][0] += 1
            if self.rows[-1][0] < self.rows[-1][1]:
                return True
            self.rows.pop()
        return False


class Driven(Runner):
    """A run in which the choices tell what the caller does. The script is written down meanwhile."""

    def __init__(self, module, choices, budget, depth, moves):
        self.choices, self.budget, self.deepest, self.moves_there = choices, budget, depth, moves
        self.names = module.idents("name")
        self.parts = {part[1]: part for part in module.parts}
        self.defaults = {part[1]: part[2] for part in module.parts if part[0] in ("name", "flag")}
        self.slots, self.events, self.begun, self.words = {}, [], 0, 0
        self.script = self.drive(self.defaults, 0)

    def drive(self, around, level):
        moves = []
        while self.budget > 0 and (self.deepest is None or level <= self.deepest):
            chosen = self.choices.pick(1 + len(self.moves_there))
            if chosen == 0:
                break
            moves.append(self.one_move(*self.moves_there[chosen - 1], around, level))
        return tuple(moves)

    def one_move(self, kind, target, flags, binds, around, level):
        self.budget -= 1
        number, ending, reactions, bindings = self.begun, "return", [], dict(flags)
        self.begun += 1
        for name in self.names * binds:
            self.words += 1
            bindings[name] = f"w{self.words}"
        try:
            self.rows([(kind, target)], {**around, **bindings}, (number, (reactions, level)))
        except Failure:
            ending = "raise"
        self.events.append(("end", number, ending))
        return (kind, target, bindings, tuple(reactions))

    def do_run(self, env, present, slot):
        if slot not in self.slots:
            return
        code, capture = self.slots[slot]
        inner = {**env, **capture}
        if isinstance(code, str):
            self.rows(self.parts[code][3], inner, present)
            return
        self.events.append(("ran", code, tuple(inner[ident] for ident in self.defaults)))
        reactions, level = present[1]
        at = len(reactions)
        reactions.append(None)
        script = self.drive(inner, level + 1)
        ending = ("return", "raise")[self.choices.pick(2)]
        reactions[at] = (script, ending)
        if ending == "raise":
            raise Failure


def all_scripts(module, count, depth=None, binds=(True,), most=3000):
    """Scripts of at most this count and depth, each with its events, the first ones if there are too many.

    Each move binds all flags, and all names or none of them, as binds allows.
    """
    flags = module.idents("flag")
    switches = [dict(zip(flags, words)) for words in itertools.product(["on", "off"], repeat=len(flags))]
    moves = [(*target, words, bind) for target in module.targets for words in switches for bind in binds]
    choices = Choices()
    for _ in range(most):
        driven = Driven(module, choices, count, depth, moves)
        yield driven.script, tuple(driven.events)
        if not choices.step():
            return
