"""Runs that note where each word comes from that a look shows or a caller's callback sees: points 29 and 30."""

from bindspan.lines import beginnings
from tests.runner import Failure, Runner


class Traced(Runner):
    """One run. In place of each word it has a pair of the word and its origin."""

    def __init__(self, module, script):
        self.parts = {part[1]: part for part in module.parts}
        self.flags = module.idents("flag")
        self.defaults = {part[1]: (part[2], ("default", part[1])) for part in module.parts if part[0] in ("name", "flag")}
        self.slots, self.begun, self.lasting = {}, 0, []
        # The rows that were seen, and how many moves had begun when they were seen first.
        self.looks, self.callbacks = {}, {}
        # The same statement may stand at several places, so each one is told by its place in memory.
        self.line_of = {id(node): line for line, node, _ in beginnings(module.parts)}
        self.moves(script, self.defaults)

    def rows(self, rows, env, present):
        for row in rows:
            self.row = row
            getattr(self, "do_" + row[0])(env, present, *row[1:])

    def moves(self, script, around):
        for kind, target, bindings, reactions in script:
            number = self.begun
            self.begun += 1
            self.lasting.append(number)
            given = {ident: (word, ("caller", ident, number)) for ident, word in bindings.items()}
            try:
                self.rows([(kind, target)], {**around, **given}, (number, iter(reactions)))
            except Failure:
                pass
            self.lasting.remove(number)

    def source(self, value, present, owner=None):
        origin = value[1]
        if origin[0] != "caller":
            return origin
        if origin[2] == owner:
            return (*origin[:2], "own")
        if origin[2] == present[0]:
            return (*origin[:2], "now")
        return (*origin[:2], "outer" if origin[2] in self.lasting else "ended")

    def do_bind(self, env, present, ident, worth, rows):
        value = (worth[1], ("bind", self.line_of[id(self.row)])) if worth[0] == "word" else env[worth[1]]
        self.rows(rows, {**env, ident: value}, present)

    def do_when(self, env, present, flag, rows, rows2):
        self.rows(rows if env[flag][0] == "on" else rows2, env, present)

    def do_look(self, env, present, tag, name):
        self.looks.setdefault((tag, self.source(env[name], present)), self.begun)

    def do_run(self, env, present, slot):
        if slot not in self.slots:
            return
        code, capture = self.slots[slot]
        inner = {**env, **capture}
        if isinstance(code, str):
            self.rows(self.parts[code][3], inner, present)
            return
        for ident in self.defaults:
            if ident not in self.flags:
                self.callbacks.setdefault((ident, self.source(inner[ident], present, code)), self.begun)
        script, ending = next(present[1], ((), "return"))
        self.moves(script, inner)
        if ending == "raise":
            raise Failure
