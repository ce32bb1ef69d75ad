"""The whole interface: its names, places, arguments and kinds of values."""

import inspect
import unittest

from bindspan import (
    bench, captures, checks, edits, envs, errors, fixes, modules, parting, plays, runs, scopes, scripts, sessions, texts, views,
)
from tests.samples import M_TEXT
from tests.test_errors import FAMILIES

SIGNATURES = {
    captures: {"Captures": "(pairs=())", "candidates": "(free, most=8)"},
    checks: {"check": "(parts)", "keepings": "(parts)"},
    texts: {"write": "(parts)", "parse": "(text)"},
    modules: {"Module": "(parts)"},
    edits: {
        "without": "(module, line)", "unwrapped": "(module, line)", "inlined": "(module, line)",
        "outlined": "(module, line, ident)", "renamed": "(module, old, new)",
    },
    envs: {"Env": "(bindings=None)"},
    scopes: {"Scope": "(defaults, engine='chain')"},
    scripts: {
        "check_script": "(module, script)", "walk": "(script)", "count_moves": "(script)", "depth_of": "(script)",
    },
    sessions: {"Session": "(module)"},
    runs: {"run": "(module, script)", "general": "(module, script)", "fill": "(events, settings)"},
    parting: {"parting": "(first, second, *, depth=None)", "alike": "(first, second, *, depth=None)"},
    views: {"views": "(module, *, depth=None)"},
    fixes: {
        "Fix": "(chosen, against)", "fewest": "(module, wished, *, free=None, depth=None)",
        "wrong_row": "(module, wished, fix, *, free=None, depth=None)", "idle_lines": "(module, *, depth=None)",
    },
    plays: {"play": "(module, script, scope, *, engines=())"},
    bench: {"Bench": "(module, *, depth=None)"},
}

# For each class its methods with their parameters behind the object itself; double-underscore methods have none here.
METHODS = {
    captures.Captures: {
        "of": "*pairs", "read": "text", "within": "other", "at": "number",
        "__init__ __str__ __or__ __and__ __sub__ __xor__ __ror__ __rand__ __rsub__ __rxor__ __eq__ __contains__ "
        "__len__ __bool__ __iter__": None,
    },
    modules.Module: {
        "read": "text", "idents": "kind", "part": "ident", "statement": "line", "with_captures": "captures",
        "full": "", "bare": "", "__init__ __str__ __len__ __getitem__ __iter__ __eq__": None,
    },
    envs.Env: {
        "names": "", "listed": "", "only": "names", "within": "other",
        "__init__ __getitem__ __contains__ __len__ __iter__ __or__ __ror__ __sub__ __eq__ __str__": None,
    },
    scopes.Scope: {
        "during": "bindings, action", "binding": "bindings", "apart": "action", "look": "name", "names": "",
        "current": "", "keep": "action, names=()", "use": "engine",
        "__init__ __getitem__ __iter__ __contains__": None,
    },
    scopes.Kept: {
        "also": "names", "__call__": "scope=None", "__init__ __getitem__ __contains__ __len__ __iter__": None,
    },
    sessions.Session: {
        "call run": "target, bindings=None, *, given=None", "setting": "number", "content": "slot", "__init__": None,
    },
    runs.Run: {"words": "tag", "ending": "number", "__len__ __getitem__ __iter__": None},
    views.Views: {"look_script": "tag, source", "callback_script": "name, source", "__contains__ __len__": None},
    fixes.Fix: {"__init__ __bool__ __len__": None},
    bench.Bench: {
        "never": "tag, kind", "shown": "tag", "like": "other", "guards": "", "lift": "number", "change": "other",
        "erase unwrap inline": "line", "capture release": "number, name", "undo": "", "trial": "action", "__init__": None,
    },
}
CLASS_METHODS = ((captures.Captures, "of"), (captures.Captures, "read"), (modules.Module, "read"))
PROPERTIES = (
    (scopes.Scope, "depth", False), (scopes.Scope, "steps", False), (scopes.Scope, "engine", True),
    (sessions.Session, "trace", False), (sessions.Session, "depth", False),
    (bench.Bench, "module", True), (bench.Bench, "changes", False),
)


class InterfaceTest(unittest.TestCase):
    def test_names_arguments_and_files(self):
        for module, names in SIGNATURES.items():
            for name, signature in names.items():
                found = getattr(module, name)
                self.assertEqual(found.__module__, module.__name__)
                self.assertEqual(str(inspect.signature(found)), signature, name)
        for owner, place in ((scopes.Kept, scopes), (runs.Run, runs), (views.Views, views)):
            self.assertEqual(owner.__module__, place.__name__)

    def test_methods_stand_in_the_class_itself(self):
        for owner, methods in METHODS.items():
            self.assertEqual(owner.__bases__, (object,))
            for names, parameters in methods.items():
                for name in names.split():
                    self.assertIn(name, vars(owner))
                    if parameters is not None:
                        found = str(inspect.signature(getattr(owner, name)))
                        own = [] if (owner, name) in CLASS_METHODS else ["self"]
                        self.assertEqual(found, "(" + ", ".join(own + [parameters] * bool(parameters)) + ")", name)

    def test_class_methods_and_properties(self):
        for owner, name in CLASS_METHODS:
            self.assertIsInstance(vars(owner)[name], classmethod)
        for owner, name, assigned in PROPERTIES:
            self.assertIsInstance(vars(owner)[name], property)
            self.assertEqual(vars(owner)[name].fset is not None, assigned)

    def test_fields_are_set_when_an_object_is_created(self):
        module = modules.Module(())
        for name in ("parts", "bound", "targets", "keepings", "captures"):
            self.assertIn(name, vars(module))
        kept = scopes.Scope({}).keep(None)
        for name in ("record", "home"):
            self.assertIn(name, vars(kept))
        for name in ("events", "settings", "contents"):
            self.assertIn(name, vars(runs.run(module, ())))
        for name in ("looks", "callbacks"):
            self.assertIn(name, vars(views.views(module)))
        for name in ("chosen", "against"):
            self.assertIn(name, vars(fixes.Fix(None, ())))

    def test_generators(self):
        self.assertTrue(inspect.isgeneratorfunction(captures.candidates))
        self.assertTrue(inspect.isgeneratorfunction(scripts.walk))

    def test_errors(self):
        for family, members in FAMILIES.items():
            for name in (family, *members):
                self.assertTrue(issubclass(getattr(errors, name), errors.BindspanError))
        self.assertTrue(issubclass(errors.BindspanError, ValueError))


M = modules.Module.read(M_TEXT)
SCRIPT = (("call", "put", {}, ()), ("run", "box", {"x": "green"}, ()))


class KindsTest(unittest.TestCase):
    """The kinds of the values that are kept, returned and taken."""

    def kinds(self, rows):
        for value, kind in rows:
            self.assertIs(type(value), kind)

    def test_captures_checks_and_texts(self):
        one = captures.Captures.of((0, "x"))
        self.kinds([
            (one.pairs, tuple), (str(one), str), (one | [(1, "y")], captures.Captures), ([(1, "y")] & one, captures.Captures),
            (one - one, captures.Captures), (() ^ one, captures.Captures), (one.within(one), bool), (one == 1, bool),
            ((0, "x") in one, bool), (len(one), int), (bool(one), bool), (one.at(0), tuple), (captures.Captures.read("0:x"), captures.Captures),
            (list(captures.candidates(one))[1], captures.Captures), (checks.check(M.parts), tuple), (checks.keepings(M.parts), tuple),
            (checks.keepings(M.parts)[0], tuple), (texts.write(M.parts), str), (texts.parse(M_TEXT), tuple), (texts.parse(M_TEXT)[0], tuple),
            (texts.parse(M_TEXT)[1], tuple),
        ])

    def test_modules_and_edits(self):
        self.kinds([
            (M.parts, tuple), (M.bound, tuple), (M.targets, tuple), (M.keepings, tuple), (M.captures, captures.Captures), (str(M), str),
            (len(M), int), (M[1], str), (list(M)[0], str), (M == M, bool), (M.idents("name"), tuple), (M.part("x"), tuple),
            (M.statement(4), tuple), (M.with_captures(M.captures), modules.Module), (M.full(), modules.Module), (M.bare(), modules.Module),
            (edits.without(M, 9), modules.Module), (edits.unwrapped(M, 8), modules.Module), (edits.outlined(M, 8, "fill"), modules.Module),
            (edits.renamed(M, "x", "y"), modules.Module), (edits.inlined(edits.outlined(M, 8, "fill"), 13), modules.Module),
        ])

    def test_envs_and_scopes(self):
        env = envs.Env({"x": 1})
        scope = scopes.Scope({"x": 1})
        kept = scope.keep(lambda inner: None, ["x"])
        with scope.binding({}) as inner:
            self.assertIs(inner, scope)
        self.kinds([
            (env["x"], int), ("x" in env, bool), (len(env), int), (list(env)[0], str), (env.names(), list), (env.listed(), list),
            (env.listed()[0], tuple), (env | {"y": "a"}, envs.Env), ({} | env, envs.Env), (env - ["x"], envs.Env), (env.only(()), envs.Env),
            (env == 1, bool), (env.within(env), bool), (str(env), str), (scope.look("x"), int), (scope["x"], int), (scope.names(), list),
            (list(scope)[0], str), ("x" in scope, bool), (scope.current(), envs.Env), (kept, scopes.Kept), (scope.depth, int),
            (scope.steps, int), (scope.engine, str), (kept.record, envs.Env), (kept.home, scopes.Scope), (kept.also(()), scopes.Kept),
            (kept["x"], int), ("x" in kept, bool), (len(kept), int), (list(kept)[0], str), (kept(), type(None)), (kept(scope), type(None)),
        ])

    def test_scripts_sessions_and_runs(self):
        session = sessions.Session(M)
        found = runs.run(M, SCRIPT)
        self.kinds([
            (scripts.check_script(M, SCRIPT), type(None)), (list(scripts.walk(SCRIPT))[0], tuple), (list(scripts.walk(SCRIPT))[0][0], int),
            (scripts.count_moves(SCRIPT), int), (scripts.depth_of(SCRIPT), int), (session.call("put"), int), (session.run("box"), int),
            (session.setting(0), dict), (session.content("box"), tuple), (session.content("box")[0], tuple), (session.content("box")[1], dict),
            (session.trace, list), (session.trace[0], tuple), (session.depth, int), (found, runs.Run), (runs.general(M, SCRIPT), runs.Run),
            (found.events, tuple), (found.settings, tuple), (found.settings[0], dict), (found.contents, dict), (found.contents["box"], tuple),
            (len(found), int), (found[0], tuple), (list(found)[0], tuple), (found.words("seen"), tuple), (found.ending(0), str),
            (runs.fill(found.events, found.settings), tuple),
        ])

    def test_questions_about_all_callers(self):
        seen = views.views(M)
        fix = fixes.fewest(M.bare(), M)
        self.kinds([
            (parting.parting(M, M.bare()), tuple), (parting.parting(M, M.full()), type(None)), (parting.alike(M, M), bool),
            (parting.parting(M, M.bare())[0], tuple), (parting.parting(M, M.bare())[0][2], dict), (seen, views.Views), (seen.looks, tuple),
            (seen.callbacks, tuple), (seen.looks[0], tuple), (seen.looks[0][1], tuple), (seen.looks[0] in seen, bool), (len(seen), int),
            (seen.look_script("seen", ("bind", 8)), tuple), (fix, fixes.Fix), (fix.chosen, captures.Captures), (fix.against, tuple),
            (fix.against[0], tuple), (fix.against[0][0], captures.Captures), (bool(fix), bool), (len(fix), int),
            (fixes.wrong_row(M.bare(), M, fix), type(None)), (fixes.wrong_row(M, M.bare(), fix), int), (fixes.idle_lines(M), list),
            (plays.play(M, SCRIPT, scopes.Scope({"x": 1, "lit": 1}), engines=["cells"]), tuple),
        ])

    def test_benches(self):
        one = bench.Bench(M, depth=2)
        self.kinds([
            (one.never("seen", "now"), type(None)), (one.shown("seen"), type(None)), (one.like(M), type(None)), (one.guards(), list),
            (one.guards()[0], tuple), (one.lift(2), type(None)), (one.change(M), type(None)), (one.capture(0, "lit"), type(None)),
            (one.release(0, "lit"), type(None)), (one.undo(), type(None)), (one.changes, int), (one.module, modules.Module),
            (one.unwrap(8), type(None)), (one.trial(lambda inner: inner), bench.Bench), (one.lift(0), type(None)), (one.lift(0), type(None)),
            (one.erase(8), type(None)),
        ])
        one.module = edits.outlined(M, 8, "fill")
        self.kinds([(one.inline(13), type(None)), (one.changes, int)])


if __name__ == "__main__":
    unittest.main()
