"""Names, arguments and places of what the interface lists."""

import inspect
import unittest

from bindspan import captures, checks, texts

SIGNATURES = {
    captures: {"Captures": "(pairs=())", "candidates": "(free, most=8)"},
    checks: {"check": "(parts)", "keepings": "(parts)"},
    texts: {"write": "(parts)", "parse": "(text)"},
}
CAPTURES_METHODS = (
    "__init__ of read __str__ __or__ __and__ __sub__ __xor__ __ror__ __rand__ __rsub__ __rxor__ within __eq__ "
    "__contains__ __len__ __bool__ __iter__ at"
).split()


class InterfaceTest(unittest.TestCase):
    def test_names_arguments_and_files(self):
        for module, names in SIGNATURES.items():
            for name, signature in names.items():
                found = getattr(module, name)
                self.assertEqual(found.__module__, module.__name__)
                self.assertEqual(str(inspect.signature(found)), signature, name)

    def test_methods_stand_in_the_class_itself(self):
        for name in CAPTURES_METHODS:
            self.assertIn(name, vars(captures.Captures))
        for name in ("of", "read"):
            self.assertIsInstance(vars(captures.Captures)[name], classmethod)
        self.assertEqual(str(inspect.signature(captures.Captures.of)), "(*pairs)")
        self.assertEqual(str(inspect.signature(captures.Captures.read)), "(text)")
        self.assertEqual(str(inspect.signature(captures.Captures.within)), "(self, other)")
        self.assertEqual(str(inspect.signature(captures.Captures.at)), "(self, number)")

    def test_candidates_is_a_generator(self):
        self.assertTrue(inspect.isgeneratorfunction(captures.candidates))


if __name__ == "__main__":
    unittest.main()
