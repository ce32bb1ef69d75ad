"""Names, arguments and places of what the interface lists."""

import inspect
import unittest

from bindspan import captures, checks, edits, envs, modules, parting, runs, scopes, scripts, sessions, texts

SIGNATURES = {
    captures: {"Captures": "(pairs=())", "candidates": "(free, most=8)"},
    checks: {"check": "(parts)", "keepings": "(parts)"},
    texts: {"write": "(parts)", "parse": "(text)"},
    modules: {"Module": "(parts)"},
    edits: {
        "without": "(module, line)", "unwrapped": "(module, line)", "inlined": "(module, line)",
        "outlined": "(module, line, ident)", "renamed": "(module, old, new)",
    },
    envs: {"Env": "(bindings=None)"},
    scopes: {"Scope": "(defaults, engine='chain')"},
    scripts: {
        "check_script": "(module, script)", "walk": "(script)", "count_moves": "(script)", "depth_of": "(script)",
    },
    sessions: {"Session": "(module)"},
    runs: {"run": "(module, script)", "general": "(module, script)", "fill": "(events, settings)"},
    parting: {"parting": "(first, second, *, depth=None)", "alike": "(first, second, *, depth=None)"},
}

# For each class its methods with their parameters behind the object itself; double-underscore methods have none here.
METHODS = {
    captures.Captures: {
        "of": "*pairs", "read": "text", "within": "other", "at": "number",
        "__init__ __str__ __or__ __and__ __sub__ __xor__ __ror__ __rand__ __rsub__ __rxor__ __eq__ __contains__ "
        "__len__ __bool__ __iter__": None,
    },
    modules.Module: {
        "read": "text", "idents": "kind", "part": "ident", "statement": "line", "with_captures": "captures",
        "full": "", "bare": "", "__init__ __str__ __len__ __getitem__ __iter__ __eq__": None,
    },
    envs.Env: {
        "names": "", "listed": "", "only": "names", "within": "other",
        "__init__ __getitem__ __contains__ __len__ __iter__ __or__ __ror__ __sub__ __eq__ __str__": None,
    },
    scopes.Scope: {
        "during": "bindings, action", "binding": "bindings", "apart": "action", "look": "name", "names": "",
        "current": "", "keep": "action, names=()", "use": "engine",
        "__init__ __getitem__ __iter__ __contains__": None,
    },
    scopes.Kept: {
        "also": "names", "__call__": "scope=None", "__init__ __getitem__ __contains__ __len__ __iter__": None,
    },
    sessions.Session: {
        "call run": "target, bindings=None, *, given=None", "setting": "number", "content": "slot", "__init__": None,
    },
    runs.Run: {"words": "tag", "ending": "number", "__len__ __getitem__ __iter__": None},
}
CLASS_METHODS = ((captures.Captures, "of"), (captures.Captures, "read"), (modules.Module, "read"))
PROPERTIES = (
    (scopes.Scope, "depth", False), (scopes.Scope, "steps", False), (scopes.Scope, "engine", True),
    (sessions.Session, "trace", False), (sessions.Session, "depth", False),
)


class InterfaceTest(unittest.TestCase):
    def test_names_arguments_and_files(self):
        for module, names in SIGNATURES.items():
            for name, signature in names.items():
                found = getattr(module, name)
                self.assertEqual(found.__module__, module.__name__)
                self.assertEqual(str(inspect.signature(found)), signature, name)
        for owner, place in ((scopes.Kept, scopes), (runs.Run, runs)):
            self.assertEqual(owner.__module__, place.__name__)

    def test_methods_stand_in_the_class_itself(self):
        for owner, methods in METHODS.items():
            self.assertEqual(owner.__bases__, (object,))
            for names, parameters in methods.items():
                for name in names.split():
                    self.assertIn(name, vars(owner))
                    if parameters is not None:
                        found = str(inspect.signature(getattr(owner, name)))
                        own = [] if (owner, name) in CLASS_METHODS else ["self"]
                        self.assertEqual(found, "(" + ", ".join(own + [parameters] * bool(parameters)) + ")", name)

    def test_class_methods_and_properties(self):
        for owner, name in CLASS_METHODS:
            self.assertIsInstance(vars(owner)[name], classmethod)
        for owner, name, assigned in PROPERTIES:
            self.assertIsInstance(vars(owner)[name], property)
            self.assertEqual(vars(owner)[name].fset is not None, assigned)

    def test_fields_are_set_when_an_object_is_created(self):
        module = modules.Module(())
        for name in ("parts", "bound", "targets", "keepings", "captures"):
            self.assertIn(name, vars(module))
        kept = scopes.Scope({}).keep(None)
        for name in ("record", "home"):
            self.assertIn(name, vars(kept))
        for name in ("events", "settings", "contents"):
            self.assertIn(name, vars(runs.run(module, ())))

    def test_generators(self):
        self.assertTrue(inspect.isgeneratorfunction(captures.candidates))
        self.assertTrue(inspect.isgeneratorfunction(scripts.walk))


if __name__ == "__main__":
    unittest.main()
