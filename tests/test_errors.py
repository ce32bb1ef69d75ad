import unittest

from bindspan import errors

FAMILIES = {
    "BadModule": {
        "BadTree": ["place"], "Duplicate": ["line", "ident"], "Unknown": ["line", "ident"],
        "BadWord": ["line", "word"], "Repeated": ["line", "ident"], "OutOfOrder": ["line", "ident"],
    },
    "BadText": {"BadLine": ["line"], "TooDeep": ["line"], "Unclosed": ["line"]},
    "BadCaptures": {"BadPair": ["pair"], "NoKeeping": ["number", "ident"], "TooMany": ["many"]},
    "BadEdit": {
        "NoLine": ["line"], "NoStatement": ["line"], "NoPart": ["ident"], "InUse": ["line", "ident"],
        "NotWrapped": ["line"], "NotCall": ["line"], "BadIdent": ["ident"], "Taken": ["ident"],
    },
    "BadScope": {
        "NotBindings": ["value"], "BadName": ["name"], "BadValue": ["value"], "UnknownName": ["name"],
        "NoEngine": ["value"],
    },
    "BadCaller": {"BadScript": ["number"], "NoTarget": ["target"], "BadBinding": ["key"]},
    "BadQuestion": {"NotComparable": ["what"], "NotSeen": ["row"]},
    "BadBench": {
        "GuardTwice": ["guard"], "NoGuard": ["number"], "NoKind": ["kind"], "NothingToUndo": [],
        "Broken": ["guard", "script"],
    },
    "BindspanError": {"Failed": []},
    "Failed": {"MoveFailed": ["number", "by"]},
}


class ErrorsTest(unittest.TestCase):
    def test_there_are_37_errors(self):
        self.assertEqual(sum(len(family) for family in FAMILIES.values()), 37)

    def test_every_class_of_the_file_is_one_of_the_interface(self):
        wanted = {"BindspanError"} | set(FAMILIES) | {name for family in FAMILIES.values() for name in family}
        found = {name for name, value in vars(errors).items() if isinstance(value, type)}
        self.assertEqual(found, wanted)
        for name in found:
            self.assertEqual(getattr(errors, name).__module__, "bindspan.errors")

    def test_bases(self):
        self.assertEqual(errors.BindspanError.__bases__, (ValueError,))
        for family, members in FAMILIES.items():
            if family not in ("BindspanError", "Failed"):
                self.assertEqual(getattr(errors, family).__bases__, (errors.BindspanError,), family)
            for name in members:
                self.assertEqual(getattr(errors, name).__bases__, (getattr(errors, family),), name)

    def test_fields_in_the_order_of_the_parameters(self):
        for members in FAMILIES.values():
            for name, fields in members.items():
                values = [object() for _ in fields]
                with self.subTest(name):
                    error = getattr(errors, name)(*values)
                    self.assertEqual(vars(error), dict(zip(fields, values)))

    def test_parameters_by_name(self):
        for members in FAMILIES.values():
            for name, fields in members.items():
                values = {field: f"a {field}" for field in fields}
                with self.subTest(name):
                    error = getattr(errors, name)(**values)
                    self.assertEqual(vars(error), values)

    def test_too_few_or_too_many_values(self):
        for members in FAMILIES.values():
            for name, fields in members.items():
                if fields:
                    with self.subTest(name):
                        self.assertRaises(TypeError, getattr(errors, name), *fields[1:])
                        self.assertRaises(TypeError, getattr(errors, name), *fields, "more")

    def test_errors_without_fields_can_be_raised_by_their_bare_name(self):
        with self.assertRaises(errors.Failed):
            raise errors.Failed
        with self.assertRaises(errors.BadBench):
            raise errors.NothingToUndo

    def test_a_value_of_any_kind_makes_no_error_of_its_own(self):
        value = (10 ** 5000, "x")
        self.assertIs(errors.BadPair(value).pair, value)


if __name__ == "__main__":
    unittest.main()
