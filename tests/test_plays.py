"""Plays: point 41, and the interface of play."""

import sys
import unittest
from unittest import mock

from bindspan.envs import Env
from bindspan.errors import BadScript, NoEngine, UnknownName
from bindspan.modules import Module
from bindspan.plays import play
from bindspan.runs import run
from bindspan.scopes import Scope
from tests import test_runs
from tests.plots import plotted
from tests.runner import Caller
from tests.samples import FULL_TEXT, M_TEXT, WRONG, Maker, refused

M = Module.read(M_TEXT)
PUT = ("call", "put", {}, ())
SCRIPT = (PUT, ("run", "box", {"x": "green"}, ()))
SIZES = (
    {"names": 1, "flags": 0, "slots": 2, "funcs": 3}, {"names": 2, "flags": 1, "slots": 3, "funcs": 4},
    {"names": 1, "flags": 1, "slots": 1, "funcs": 5, "deep": 3}, {"names": 3, "flags": 0, "slots": 2, "funcs": 6},
)


class Watched(Scope):
    """A scope that notes what it is used for, and how deep in calls something is looked up."""

    def __init__(self, *values):
        self.calls, self.frames = [], []
        super().__init__(*values)

    def during(self, bindings, action):
        self.calls.append(("during", dict(Env(bindings).listed())))
        return super().during(bindings, action)

    def apart(self, action):
        self.calls.append(("apart",))
        return super().apart(action)

    def keep(self, action, names=()):
        self.calls.append(("keep", tuple(names)))
        return super().keep(action, names)

    def look(self, name):
        many, frame = 0, sys._getframe()
        while frame is not None:
            many, frame = many + 1, frame.f_back
        self.frames.append(many)
        return super().look(name)


def nested(depth, ending="return"):
    """A script that calls go, and in each callback, down to this depth, go once more."""
    script = []
    for _ in range(depth + 1):
        script = [("call", "go", {}, [(script, ending)])]
    return script


def in_blocks(head, row, block="apart"):
    """The lines of a function with one row inside 8 blocks."""
    return f"{head}\n" + f"{block}\n" * 8 + f"{row}\n" + "end\n" * 9


def random_plays():
    for seed in range(200):
        for module in (Module(Maker(seed).parts), plotted(seed, **SIZES[seed % 4])):
            yield seed, module, Caller(module, seed).script(4, 3)


def other_values(module):
    return {**{ident: at for at, ident in enumerate(module.bound)}, "extra": "on", "more": 10 ** 100}


class PlayTest(unittest.TestCase):
    def test_the_example_of_the_document(self):
        self.assertEqual(play(M, SCRIPT, Scope({"x": 1, "lit": 2}, "cells")), run(M, SCRIPT).events)

    def test_every_statement(self):
        module = Module.read(FULL_TEXT)
        script = [("call", "put", {"x": "a", "lit": "off"}, ()), ("run", "box", {"y": "b"}, ()), ("call", "none", {}, [])]
        events = play(module, script, Scope(other_values(module)))
        self.assertIs(type(events), tuple)
        self.assertEqual(events, run(module, script).events)

    def test_random_modules_and_scripts_with_either_engine(self):
        for seed, module, script in random_plays():
            for engine in ("chain", "cells"):
                scope = Scope(other_values(module), engine)
                self.assertEqual(play(module, script, scope), run(module, script).events, seed)
                self.assertEqual((scope.engine, scope.depth, scope.current()), (engine, 0, Env(other_values(module))))

    def test_inside_layers(self):
        for seed, module, script in random_plays():
            scope = Scope(other_values(module))

            def action(inner):
                before = (inner.depth, inner.current())
                kept = inner.keep(lambda one: play(module, script, one), module.bound[:1])
                found = (play(module, script, inner), kept())
                self.assertEqual((inner.depth, inner.current()), before)
                return found

            found = scope.during({"extra": 1}, lambda one: one.during({module.bound[0]: "inner"}, action))
            self.assertEqual(found, (run(module, script).events,) * 2, seed)
            with scope.binding({module.bound[-1]: "block"}) as inner:
                self.assertEqual(play(module, script, inner), found[0])
                self.assertEqual((inner[module.bound[-1]], inner.depth), ("block", 1))
            self.assertEqual(scope.current(), Env(other_values(module)))

    def test_engines_that_change_with_the_events(self):
        for seed, module, script in random_plays():
            for engines in (["cells"], ("chain", "cells"), ["cells", "cells", "chain"], ("chain",) * 5, []):
                scope = Scope(other_values(module), "cells" if seed % 2 else "chain")
                self.assertEqual(play(module, script, scope, engines=engines), run(module, script).events, seed)
                self.assertEqual((scope.engine, scope.depth), ("cells" if seed % 2 else "chain", 0))

    def test_the_engine_is_set_before_each_event(self):
        text = "name x = a\nopen func f\nlook t x\nlook t x\nbind x = b\nlook t x\nend\nlook t x\nend"
        module, seen = Module.read(text), []

        class Looked(Scope):
            def look(self, name):
                seen.append(self.engine)
                return super().look(name)

        for engines, wanted in (
            (("chain", "cells"), ["chain", "cells", "chain", "cells"]), (["cells", "chain", "chain"], ["cells", "chain", "chain", "cells"]),
            (["cells"], ["cells"] * 4), ([], ["chain"] * 4),
        ):
            seen.clear()
            scope = Looked({"x": 0})
            play(module, [("call", "f", {}, ())], scope, engines=engines)
            self.assertEqual((seen, scope.engine), (wanted, "chain"))
        # The end of a move is an event, too.
        seen.clear()
        play(module, [("call", "f", {}, ())] * 2, Looked({"x": 0}), engines=["chain", "cells"])
        self.assertEqual(seen, ["chain", "cells", "chain", "cells", "cells", "chain", "cells", "chain"])

    def test_the_engine_is_set_for_events_of_every_kind(self):
        text = "name x = a\nown slot s\nopen func f\ntake s\nlook t x\nrun s\nrun s\nend"
        module, set_to = Module.read(text), []

        class Noted(Scope):
            def use(self, engine):
                set_to.append(engine)
                super().use(engine)

        scope = Noted({"x": 0}, "cells")
        set_to.clear()
        events = play(module, [("call", "f", {}, [([("call", "f", {}, ())], "return")])], scope, engines=("chain", "cells", "cells"))
        self.assertEqual([event[0] for event in events], ["look", "ran", "look", "ran", "ran", "end", "ran", "end"])
        self.assertEqual(set_to, ["chain", "cells", "cells", "chain", "cells", "cells", "chain", "cells", "cells"])

    def test_the_means_of_the_scope_are_used(self):
        text = "name x = a\nown slot s\nopen func f\nbind x = b\ntake s with x\nrun s\nend\napart\nlook t x\nend\nend"
        module = Module.read(text)
        scope = Watched({"x": 0})
        events = play(module, [("call", "f", {"x": "c"}, ())], scope)
        self.assertEqual(events, (("ran", 0, ("b",)), ("look", "t", "a"), ("end", 0, "return")))
        # The move, the bind, the default environment, and the callback that captured x.
        for word in ("c", "b", "a"):
            self.assertIn(("during", {"x": word}), scope.calls)
        self.assertIn(("apart",), scope.calls)
        self.assertIn(("keep", ("x",)), scope.calls)
        self.assertGreater(scope.steps, 0)

    def test_a_play_inside_of_a_play(self):
        # An action of the scope that plays does not disturb kept actions that were made before.
        scope = Scope({"x": "p", "lit": "q"})
        kept = scope.keep(lambda one: (one["x"], play(M, SCRIPT, one), one["x"]), ["x"])
        self.assertEqual(kept(), ("p", run(M, SCRIPT).events, "p"))

    def test_each_play_begins_anew(self):
        scope = Scope({"x": 1, "lit": 2})
        self.assertEqual(play(M, SCRIPT, scope), play(M, SCRIPT, scope))
        self.assertEqual(play(M, SCRIPT[1:], scope), (("end", 0, "return"),))

    def test_scripts_of_any_depth_in_modules_with_many_blocks(self):
        for block in ("apart", "guard", "bind x = b", "held s", "when z"):
            text = "name x = a\nflag z = on\nown slot s\nown func ask\ntake s with x\nend\n"
            text += in_blocks("own func first", "call ask\nrun s") + in_blocks("own func second", "call first", "guard")
            text += in_blocks("open func go\ncall ask", "call second", block).removesuffix("\n")
            module = Module.read(text)
            for depth in (0, 1, 6, 8, 20, 40):
                for ending in ("return", "raise"):
                    script = nested(depth, ending)
                    events = run(module, script).events
                    self.assertEqual(len(events), 2 * depth + 2)
                    for engine in ("chain", "cells"):
                        scope = Scope({"x": 1, "z": 2}, engine)
                        self.assertEqual(play(module, script, scope), events, (block, depth))
                        self.assertEqual((scope.engine, scope.depth), (engine, 0))
                        found = scope.during({"x": 3}, lambda one: (play(module, script, one, engines=["cells", "chain"]), one.depth))
                        self.assertEqual((found, scope.engine), ((events, 1), engine))

    def test_calls_do_not_grow_deeper_with_the_module_or_the_script(self):
        text = "name x = a\nown slot s\nown func ask\ntake s\nlook t x\nend\n"
        flat = Module.read(text + "open func go\ncall ask\nrun s\nend")
        text += in_blocks("own func first", "call ask\nrun s", "bind x = b") + in_blocks("own func second", "call first")
        deep = Module.read(text + in_blocks("open func go", "call second", "guard").removesuffix("\n"))
        scopes = [Watched({"x": 0}) for _ in range(3)]
        for module, script, scope in zip((flat, deep, deep), (nested(0), nested(0), nested(9)), scopes):
            self.assertEqual(play(module, script, scope), run(module, script).events)
        self.assertEqual([len(scope.frames) for scope in scopes], [1, 1, 10])
        self.assertEqual(len(set(scopes[0].frames + scopes[1].frames + scopes[2].frames)), 1)

    def test_deep_modules_and_scripts(self):
        # Two functions with eight blocks each, the whole of which is run inside each of seven moves.
        rows = "apart\nbind x = b\n" * 3 + "apart\nguard\nACT\n" + "end\n" * 8 + "end\n"
        text = "name x = a\nown slot s\nopen func ask\ntake s\nend\nown func inner\n" + rows.replace("ACT", "run s")
        module = Module.read(text + "open func go\n" + rows.replace("ACT", "call inner").removesuffix("\n"))
        script = [("call", "go", {}, ())]
        for _ in range(6):
            script = [("call", "go", {}, [(script, "raise")])]
        script = [("call", "ask", {"x": "w"}, ()), *script]
        events = run(module, script).events
        self.assertEqual(sum(event[0] == "ran" for event in events), 7)
        self.assertEqual(play(module, script, Scope({"x": 0})), events)


def played(lines, *script):
    """What tests.test_runs calls events, by a play instead of a run."""
    module = Module.read(lines.replace(";", "\n"))
    return list(play(module, script, Scope(other_values(module), "cells"), engines=("chain", "cells")))


class Played:
    """The tests of what statements and callers do, carried out by plays."""

    def setUp(self):
        patch = mock.patch.object(test_runs, "events", played)
        patch.start()
        self.addCleanup(patch.stop)


class StatementsTest(Played, test_runs.StatementsTest):
    pass


class FailuresTest(Played, test_runs.FailuresTest):
    pass


class CallersTest(Played, test_runs.CallersTest):
    pass


class ErrorsTest(unittest.TestCase):
    def test_errors_in_their_order(self):
        scope = Watched({"x": 1})
        other = Watched({"y": 1, "lit": 2})
        full = Watched({"x": 1, "lit": 1, "y": 1}, "cells")
        for script, one, engines, error in (
            ([PUT, ("call", "show", {}, ())], scope, ["no"], (BadScript, 1)), (None, other, [None], (BadScript, 0)),
            (SCRIPT, scope, ["no"], (UnknownName, "lit")), (SCRIPT, other, (), (UnknownName, "x")),
            (SCRIPT, Watched({}), (), (UnknownName, "x")), (SCRIPT, full, ["chain", "no", None], (NoEngine, "no")),
            ((), full, ("Chain",), (NoEngine, "Chain")), ((), scope, (), (UnknownName, "lit")),
        ):
            before = (one.engine, one.depth, one.current(), one.steps)
            self.assertEqual(refused(lambda: play(M, script, one, engines=engines)), error)
            self.assertEqual((one.engine, one.depth, one.current(), one.steps, one.calls), (*before, []))

    def test_engines_of_any_kind(self):
        for value in WRONG:
            scope = Scope({"x": 1, "lit": 1})
            with self.assertRaises(NoEngine) as caught:
                play(M, SCRIPT, scope, engines=["cells", value])
            self.assertIs(caught.exception.value, value)
            self.assertEqual(scope.engine, "chain")

    def test_arguments_are_not_changed(self):
        engines = ["cells", "chain"]
        script = [PUT, ("run", "box", {"x": "green"}, [([], "return")])]
        play(M, script, Scope({"x": 1, "lit": 1}), engines=engines)
        self.assertEqual((engines, script), (["cells", "chain"], [PUT, ("run", "box", {"x": "green"}, [([], "return")])]))


if __name__ == "__main__":
    unittest.main()
