"""Plays: point 41, and the interface of play."""

import unittest
from unittest import mock

from bindspan.envs import Env
from bindspan.errors import BadScript, NoEngine, UnknownName
from bindspan.modules import Module
from bindspan.plays import play
from bindspan.runs import run
from bindspan.scopes import Scope
from tests import test_runs
from tests.plots import plotted
from tests.runner import Caller
from tests.samples import FULL_TEXT, M_TEXT, WRONG, Maker, refused

M = Module.read(M_TEXT)
PUT = ("call", "put", {}, ())
SCRIPT = (PUT, ("run", "box", {"x": "green"}, ()))
SIZES = (
    {"names": 1, "flags": 0, "slots": 2, "funcs": 3}, {"names": 2, "flags": 1, "slots": 3, "funcs": 4},
    {"names": 1, "flags": 1, "slots": 1, "funcs": 5, "deep": 3}, {"names": 3, "flags": 0, "slots": 2, "funcs": 6},
)


class Watched(Scope):
    """A scope that notes what it is used for, and which engine is set when something is looked up."""

    def __init__(self, *values):
        self.calls, self.engines = [], []
        super().__init__(*values)

    def during(self, bindings, action):
        self.calls.append("during")
        return super().during(bindings, action)

    def apart(self, action):
        self.calls.append("apart")
        return super().apart(action)

    def keep(self, action, names=()):
        self.calls.append("keep")
        return super().keep(action, names)


def random_plays():
    for seed in range(200):
        for module in (Module(Maker(seed).parts), plotted(seed, **SIZES[seed % 4])):
            yield seed, module, Caller(module, seed).script(4, 3)


def other_values(module):
    return {**{ident: at for at, ident in enumerate(module.bound)}, "extra": "on", "more": 10 ** 100}


class PlayTest(unittest.TestCase):
    def test_the_example_of_the_document(self):
        self.assertEqual(play(M, SCRIPT, Scope({"x": 1, "lit": 2}, "cells")), run(M, SCRIPT).events)

    def test_every_statement(self):
        module = Module.read(FULL_TEXT)
        script = [("call", "put", {"x": "a", "lit": "off"}, ()), ("run", "box", {"y": "b"}, ()), ("call", "none", {}, [])]
        events = play(module, script, Scope(other_values(module)))
        self.assertIs(type(events), tuple)
        self.assertEqual(events, run(module, script).events)

    def test_random_modules_and_scripts_with_either_engine(self):
        for seed, module, script in random_plays():
            for engine in ("chain", "cells"):
                scope = Scope(other_values(module), engine)
                self.assertEqual(play(module, script, scope), run(module, script).events, seed)
                self.assertEqual((scope.engine, scope.depth, scope.current()), (engine, 0, Env(other_values(module))))

    def test_inside_layers(self):
        for seed, module, script in random_plays():
            scope = Scope(other_values(module))

            def action(inner):
                before = (inner.depth, inner.current())
                kept = inner.keep(lambda one: play(module, script, one), module.bound[:1])
                found = (play(module, script, inner), kept())
                self.assertEqual((inner.depth, inner.current()), before)
                return found

            found = scope.during({"extra": 1}, lambda one: one.during({module.bound[0]: "inner"}, action))
            self.assertEqual(found, (run(module, script).events,) * 2, seed)
            with scope.binding({module.bound[-1]: "block"}) as inner:
                self.assertEqual(play(module, script, inner), found[0])
                self.assertEqual((inner[module.bound[-1]], inner.depth), ("block", 1))
            self.assertEqual(scope.current(), Env(other_values(module)))

    def test_engines_that_change_with_the_events(self):
        for seed, module, script in random_plays():
            for engines in (["cells"], ("chain", "cells"), ["cells", "cells", "chain"], ("chain",) * 5, []):
                scope = Scope(other_values(module), "cells" if seed % 2 else "chain")
                self.assertEqual(play(module, script, scope, engines=engines), run(module, script).events, seed)
                self.assertEqual((scope.engine, scope.depth), ("cells" if seed % 2 else "chain", 0))

    def test_the_engine_is_set_before_each_event(self):
        text = "name x = a\nopen func f\nlook t x\nlook t x\nbind x = b\nlook t x\nend\nlook t x\nend"
        module, seen = Module.read(text), []

        class Looked(Scope):
            def look(self, name):
                seen.append(self.engine)
                return super().look(name)

        for engines, wanted in (
            (("chain", "cells"), ["chain", "cells", "chain", "cells"]), (["cells", "chain", "chain"], ["cells", "chain", "chain", "cells"]),
            (["cells"], ["cells"] * 4), ([], ["chain"] * 4),
        ):
            seen.clear()
            scope = Looked({"x": 0})
            play(module, [("call", "f", {}, ())], scope, engines=engines)
            self.assertEqual((seen, scope.engine), (wanted, "chain"))
        # The end of a move is an event, too.
        seen.clear()
        play(module, [("call", "f", {}, ())] * 2, Looked({"x": 0}), engines=["chain", "cells"])
        self.assertEqual(seen, ["chain", "cells", "chain", "cells", "cells", "chain", "cells", "chain"])

    def test_the_engine_is_set_for_events_of_every_kind(self):
        text = "name x = a\nown slot s\nopen func f\ntake s\nlook t x\nrun s\nrun s\nend"
        module, set_to = Module.read(text), []

        class Noted(Scope):
            def use(self, engine):
                set_to.append(engine)
                super().use(engine)

        scope = Noted({"x": 0}, "cells")
        set_to.clear()
        events = play(module, [("call", "f", {}, [([("call", "f", {}, ())], "return")])], scope, engines=("chain", "cells", "cells"))
        self.assertEqual([event[0] for event in events], ["look", "ran", "look", "ran", "ran", "end", "ran", "end"])
        self.assertEqual(set_to, ["chain", "cells", "cells", "chain", "cells", "cells", "chain", "cells", "cells"])

    def test_the_means_of_the_scope_are_used(self):
        text = "name x = a\nown slot s\nopen func f\nbind x = b\ntake s with x\nrun s\nend\napart\nlook t x\nend\nend"
        module = Module.read(text)
        scope = Watched({"x": 0})
        events = play(module, [("call", "f", {"x": "c"}, ())], scope)
        self.assertEqual(events, (("ran", 0, ("b",)), ("look", "t", "a"), ("end", 0, "return")))
        self.assertGreaterEqual(scope.calls.count("during"), 3)
        self.assertGreaterEqual(scope.calls.count("apart"), 1)
        self.assertEqual(scope.calls.count("keep"), 1)
        self.assertGreater(scope.steps, 0)

    def test_a_play_inside_of_a_play(self):
        # An action of the scope that plays does not disturb kept actions that were made before.
        scope = Scope({"x": "p", "lit": "q"})
        kept = scope.keep(lambda one: (one["x"], play(M, SCRIPT, one), one["x"]), ["x"])
        self.assertEqual(kept(), ("p", run(M, SCRIPT).events, "p"))

    def test_each_play_begins_anew(self):
        scope = Scope({"x": 1, "lit": 2})
        self.assertEqual(play(M, SCRIPT, scope), play(M, SCRIPT, scope))
        self.assertEqual(play(M, SCRIPT[1:], scope), (("end", 0, "return"),))

    def test_deep_modules_and_scripts(self):
        # Two functions with eight blocks each, the whole of which is run inside each of seven moves.
        rows = "apart\nbind x = b\n" * 3 + "apart\nguard\nACT\n" + "end\n" * 8 + "end\n"
        text = "name x = a\nown slot s\nopen func ask\ntake s\nend\nown func inner\n" + rows.replace("ACT", "run s")
        module = Module.read(text + "open func go\n" + rows.replace("ACT", "call inner").removesuffix("\n"))
        script = [("call", "go", {}, ())]
        for _ in range(6):
            script = [("call", "go", {}, [(script, "raise")])]
        script = [("call", "ask", {"x": "w"}, ()), *script]
        events = run(module, script).events
        self.assertEqual(sum(event[0] == "ran" for event in events), 7)
        self.assertEqual(play(module, script, Scope({"x": 0})), events)


def played(lines, *script):
    """What tests.test_runs calls events, by a play instead of a run."""
    module = Module.read(lines.replace(";", "\n"))
    return list(play(module, script, Scope(other_values(module), "cells"), engines=("chain", "cells")))


class Played:
    """The tests of what statements and callers do, carried out by plays."""

    def setUp(self):
        patch = mock.patch.object(test_runs, "events", played)
        patch.start()
        self.addCleanup(patch.stop)


class StatementsTest(Played, test_runs.StatementsTest):
    pass


class FailuresTest(Played, test_runs.FailuresTest):
    pass


class CallersTest(Played, test_runs.CallersTest):
    pass


class ErrorsTest(unittest.TestCase):
    def test_errors_in_their_order(self):
        scope = Watched({"x": 1})
        other = Watched({"y": 1, "lit": 2})
        full = Watched({"x": 1, "lit": 1, "y": 1}, "cells")
        for script, one, engines, error in (
            ([PUT, ("call", "show", {}, ())], scope, ["no"], (BadScript, 1)), (None, other, [None], (BadScript, 0)),
            (SCRIPT, scope, ["no"], (UnknownName, "lit")), (SCRIPT, other, (), (UnknownName, "x")),
            (SCRIPT, Watched({}), (), (UnknownName, "x")), (SCRIPT, full, ["chain", "no", None], (NoEngine, "no")),
            ((), full, ("Chain",), (NoEngine, "Chain")), ((), scope, (), (UnknownName, "lit")),
        ):
            before = (one.engine, one.depth, one.current(), one.steps)
            self.assertEqual(refused(lambda: play(M, script, one, engines=engines)), error)
            self.assertEqual((one.engine, one.depth, one.current(), one.steps, one.calls), (*before, []))

    def test_engines_of_any_kind(self):
        for value in WRONG:
            scope = Scope({"x": 1, "lit": 1})
            with self.assertRaises(NoEngine) as caught:
                play(M, SCRIPT, scope, engines=["cells", value])
            self.assertIs(caught.exception.value, value)
            self.assertEqual(scope.engine, "chain")

    def test_arguments_are_not_changed(self):
        engines = ["cells", "chain"]
        script = [PUT, ("run", "box", {"x": "green"}, [([], "return")])]
        play(M, script, Scope({"x": 1, "lit": 1}), engines=engines)
        self.assertEqual((engines, script), (["cells", "chain"], [PUT, ("run", "box", {"x": "green"}, [([], "return")])]))


if __name__ == "__main__":
    unittest.main()
