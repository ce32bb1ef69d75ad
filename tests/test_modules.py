"""Modules: fields, lines, questions, and other captures."""

import copy
import itertools
import unittest

from bindspan.captures import Captures
from bindspan.checks import check, keepings
from bindspan.errors import (
    BadLine, BadText, BadTree, BadWord, Duplicate, NoKeeping, NoLine, NoPart, NoStatement,
    OutOfOrder, Repeated, TooDeep, Unclosed, Unknown,
)
from bindspan.modules import Module
from bindspan.texts import parse, write
from tests.samples import (
    FULL_PARTS, FULL_TEXT, M_PARTS, M_TEXT, WRONG, Maker, Odd, Spiteful, nested_lines, refused, roughened,
)

M = Module(M_PARTS)
FULL = Module(FULL_PARTS)
NOTHING = Module(())


def bare_parts(node):
    """The parts, or what lies in them, with each with list replaced by its place in the tree."""
    if not isinstance(node, tuple):
        return node
    if node and node[0] in ("keep", "take", "shift"):
        return node[:-1]
    return tuple([bare_parts(item) for item in node])


class FieldsTest(unittest.TestCase):
    def test_the_module_of_the_document(self):
        self.assertEqual(M.parts, M_PARTS)
        self.assertEqual(M.bound, ("x", "lit"))
        self.assertEqual(M.targets, (("run", "box"), ("call", "put")))
        self.assertEqual(M.keepings, ((9, "keep", "box", ("x",)),))
        self.assertEqual(M.captures, Captures.of((0, "x")))

    def test_without_parts(self):
        self.assertEqual(NOTHING.parts, ())
        self.assertEqual(NOTHING.bound, ())
        self.assertEqual(NOTHING.targets, ())
        self.assertEqual(NOTHING.keepings, ())
        self.assertEqual(NOTHING.captures, Captures())

    def test_targets_are_what_is_open_in_the_order_of_declaration(self):
        parts = (
            ("func", "a", "open", ()), ("slot", "b", "own"), ("slot", "c", "open"), ("name", "d", "open"),
            ("func", "e", "own", ()), ("flag", "f", "on"), ("slot", "g", "open"), ("func", "h", "open", ()),
        )
        self.assertEqual(Module(parts).targets, (("call", "a"), ("run", "c"), ("run", "g"), ("call", "h")))
        self.assertEqual(Module(parts).bound, ("d", "f"))

    def test_with_lists_stand_in_the_order_of_declaration(self):
        rows = (("keep", "s", "g", ("z", "a", "m")), ("held", "s", (("take", "s", ("m", "z")),), ()))
        parts = (
            ("flag", "m", "on"), ("func", "g", "own", ()), ("name", "z", "b"), ("slot", "s", "own"),
            ("func", "f", "own", rows), ("name", "a", "b"),
        )
        before = copy.deepcopy(parts)
        module = Module(parts)
        self.assertEqual(parts, before)
        self.assertEqual(module.parts, check(parts))
        self.assertEqual(module.parts[4][3][0], ("keep", "s", "g", ("m", "z", "a")))
        self.assertEqual(module.statement(7), ("keep", "s", "g", ("m", "z", "a")))
        self.assertEqual(module.statement(9), ("take", "s", ("m", "z")))
        self.assertEqual(module.keepings, ((7, "keep", "s", ("m", "z", "a")), (9, "take", "s", ("m", "z"))))
        self.assertEqual(module.captures.pairs, ((0, "a"), (0, "m"), (0, "z"), (1, "m"), (1, "z")))
        self.assertEqual(module[7], "  keep s g with m z a")

    def test_numbers_of_keepings_go_by_lines(self):
        self.assertEqual(FULL.captures, Captures.read("1:y 1:lit 3:x 5:dim"))
        self.assertEqual(FULL.keepings, keepings(FULL_PARTS))

    def test_random_modules(self):
        for seed in range(150):
            maker = Maker(seed)
            module = Module(maker.parts)
            self.assertEqual(module.parts, check(maker.parts))
            self.assertEqual(module.bound, tuple(maker.bound))
            self.assertEqual(module.keepings, tuple(maker.kept))
            pairs = [(at, ident) for at, row in enumerate(maker.kept) for ident in row[3]]
            self.assertEqual(module.captures, Captures(pairs))

    def test_the_checks_are_those_of_check(self):
        for value in WRONG:
            if not isinstance(value, tuple):
                self.assertEqual(refused(Module, value), (BadTree, -1))
            self.assertEqual(refused(Module, (("name", "x", "a"), value)), (BadTree, 1))
        for parts, error in (
            ((("name", "x", "red"), ("name", "x", "blue")), (Duplicate, 2, "x")),
            ((("func", "f", "own", (("look", "t", "x"),)),), (Unknown, 2, "x")),
            ((("flag", "x", "on"), ("func", "f", "own", (("bind", "x", ("word", "a"), ()),))), (BadWord, 3, "a")),
            ((("flag", "x", "on"), ("slot", "s", "own"), ("func", "f", "own", (("take", "s", ("x", "x")),))),
             (Repeated, 4, "x")),
            ((("func", "f", "own", (("call", "f"),)),), (OutOfOrder, 2, "f")),
        ):
            self.assertEqual(refused(Module, parts), error)
            self.assertEqual(refused(check, parts), error)


class ReadTest(unittest.TestCase):
    def test_the_module_of_the_document(self):
        self.assertEqual(Module.read(M_TEXT).parts, M_PARTS)
        self.assertIsInstance(Module.read(M_TEXT), Module)

    def test_the_empty_text(self):
        for text in ("", "\n\n", "# a", "  \n#"):
            self.assertEqual(Module.read(text).parts, ())

    def test_reading_the_canonical_text_gives_an_equal_module(self):
        for module in (NOTHING, M, FULL, M.full(), FULL.full(), FULL.bare()):
            self.assertEqual(Module.read(str(module)), module)
        for seed in range(150):
            module = Module(Maker(seed).parts)
            self.assertEqual(Module.read(str(module)), module)
            self.assertEqual(Module.read(roughened(str(module), seed)[0]), module)

    def test_fields_speak_of_the_canonical_text(self):
        module = Module.read("# a\n\n" + M_TEXT.replace("\n", "\n\n"))
        self.assertEqual(module.keepings, M.keepings)
        self.assertEqual(module.statement(9), M.statement(9))
        self.assertEqual(list(module), M_TEXT.split("\n"))

    def test_with_lists_of_another_order(self):
        module = Module.read(M_TEXT.replace("with x", "with lit  x"))
        self.assertEqual(module, M.full())
        self.assertEqual(module[9], "    keep box show with x lit")

    def test_errors_of_the_text(self):
        self.assertEqual(refused(Module.read, "name x = red\nname y"), (BadLine, 2))
        self.assertEqual(refused(Module.read, "\n".join(["", *nested_lines(9)])), (TooDeep, 12))
        self.assertEqual(refused(Module.read, "# a\nown func f\n guard\n after"), (Unclosed, 3))

    def test_the_text_is_read_before_it_is_checked(self):
        self.assertEqual(refused(Module.read, "name x = a\nname x = a\nend"), (BadLine, 3))
        self.assertEqual(refused(Module.read, "name x = a\nname x = a\nown func f"), (Unclosed, 3))
        lines = ["name x = a", "name x = a", *nested_lines(9)]
        self.assertEqual(refused(Module.read, "\n".join(lines)), (TooDeep, 13))

    def test_errors_of_the_checks_at_the_lines_of_the_text(self):
        head = "# a\n\nname x = red\n  # b\nflag lit = off\n"
        for body, error in (
            ("\nname x = blue", (Duplicate, 7, "x")),
            ("own func f\n\n look t y\nend", (Unknown, 8, "y")),
            ("own func f\n\n bind lit = red\n look t y\nend\nend", (BadWord, 8, "red")),
            ("own slot s\nown func f\n\n\n take s with lit x lit\nend", (Repeated, 10, "lit")),
            ("own func f\nguard\n\n  after\n call f\nend\nend", (OutOfOrder, 10, "f")),
            ("own func f\nwhen lit\nelse\n look t y\nend\nend", (Unknown, 9, "y")),
            ("own func f\n look t y\nend\nname lit = on", (Duplicate, 9, "lit")),
            ("own slot s\nown func f\n take s with x q\n take s with x x\nend", (Unknown, 8, "q")),
        ):
            self.assertEqual(refused(Module.read, head + body), error)

    def test_dividers_ahead_of_nothing_count_as_lines_of_the_text(self):
        text = "name x = a\nown func f\n guard\n after\n end\n look t y\nend"
        self.assertEqual(refused(Module.read, text), (Unknown, 6, "y"))
        self.assertEqual(refused(Module, parse(text)[0]), (Unknown, 5, "y"))

    def test_random_faults_are_told_at_the_lines_of_the_text(self):
        found = set()
        for seed in range(200):
            maker = Maker(seed)
            lines, at = maker.text.split("\n"), seed % len(maker.lines)
            faults = [
                [*lines[:at], lines[at].replace(old, new), *lines[at + 1:]]
                for old, new in ((" with ", " with x "), ("name ", "flag "), (" x", " zz"), ("= o", "= no"), ("run", "call"))
            ]
            faults.append([*lines, f"name {maker.declared[seed % len(maker.declared)][1]} = red"])
            faults.append([*lines, "own func xx", "guard", "fail", "after", "call xx", "end", "end"])
            for fault in faults:
                broken = "\n".join(fault)
                error = refused(Module.read, broken)
                if error is not None and not issubclass(error[0], BadText):
                    rough, numbers = roughened(broken, seed)
                    self.assertEqual(refused(Module, parse(broken)[0]), error)
                    self.assertEqual(refused(Module.read, rough), (error[0], numbers[error[1] - 1], *error[2:]))
                    found.add(error[0])
        self.assertEqual({Duplicate, Unknown, BadWord, OutOfOrder, Repeated}, found)


class LinesTest(unittest.TestCase):
    def test_the_module_of_the_document(self):
        lines = M_TEXT.split("\n")
        self.assertEqual(str(M), M_TEXT)
        self.assertEqual(len(M), 11)
        self.assertEqual(list(M), lines)
        self.assertEqual([M[at] for at in range(1, 12)], lines)
        self.assertEqual(M[9], "    keep box show with x")

    def test_without_parts(self):
        self.assertEqual((str(NOTHING), len(NOTHING), list(NOTHING)), ("", 0, []))

    def test_every_form(self):
        self.assertEqual(str(FULL), FULL_TEXT)
        self.assertEqual(list(FULL), FULL_TEXT.split("\n"))
        self.assertEqual(len(FULL), FULL_TEXT.count("\n") + 1)

    def test_random_modules(self):
        for seed in range(150):
            maker = Maker(seed)
            module = Module(maker.parts)
            self.assertEqual(str(module), maker.text)
            self.assertEqual(str(module), write(maker.parts))
            self.assertEqual(list(module), maker.lines)
            self.assertEqual(len(module), len(maker.lines))

    def test_no_such_line(self):
        for module in (NOTHING, M, FULL):
            for line in (0, -1, -len(module), -10 ** 30, len(module) + 1, len(module) + 2, 10 ** 30):
                self.assertEqual(refused(module.__getitem__, line), (NoLine, line))
                self.assertEqual(refused(module.statement, line), (NoLine, line))
        with self.assertRaises(NoLine):
            M[12]

    def test_iterating_twice(self):
        rows = iter(M)
        next(rows)
        self.assertEqual(list(M), M_TEXT.split("\n"))
        self.assertEqual(next(rows), "flag lit = off")


class EqualTest(unittest.TestCase):
    def test_the_same_parts(self):
        self.assertTrue(M == Module(M_PARTS))
        self.assertTrue(M == Module.read(M_TEXT))
        self.assertFalse(M != Module(M_PARTS))
        self.assertTrue(NOTHING == Module(()))

    def test_with_lists_of_another_order(self):
        first = M_TEXT.replace("with x", "with x lit")
        self.assertTrue(Module.read(first) == Module.read(M_TEXT.replace("with x", "with lit x")))

    def test_other_parts(self):
        for other in (NOTHING, FULL, M.full(), M.bare(), Module(M_PARTS[:4]), Module(M_PARTS[1:2] + M_PARTS[:1] + M_PARTS[2:])):
            self.assertFalse(M == other)
            self.assertTrue(M != other)

    def test_other_kinds(self):
        for value in (*WRONG, M_PARTS, M_TEXT, list(M), Odd(), Spiteful()):
            self.assertIs(M == value, False)
            self.assertIs(M != value, True)


class QuestionsTest(unittest.TestCase):
    def test_idents(self):
        wanted = {
            "name": ("x", "y"), "flag": ("lit", "dim"), "slot": ("box", "chest"), "func": ("show", "none", "put"),
        }
        for kind, idents in wanted.items():
            self.assertEqual(FULL.idents(kind), idents)
            self.assertEqual(NOTHING.idents(kind), ())
        for seed in range(40):
            maker = Maker(seed)
            for kind in wanted:
                wished = tuple([ident for other, ident in maker.declared if other == kind])
                self.assertEqual(Module(maker.parts).idents(kind), wished)

    def test_part(self):
        for part in FULL_PARTS:
            self.assertEqual(FULL.part(part[1]), part)
        for ident in ("q", "seen", "red", "", "name", "X"):
            self.assertEqual(refused(M.part, ident), (NoPart, ident))
        self.assertEqual(refused(NOTHING.part, "x"), (NoPart, "x"))

    def test_statement(self):
        self.assertEqual(M.statement(4), ("look", "seen", "x"))
        self.assertEqual(M.statement(8), M_PARTS[4][3][0])
        self.assertEqual(M.statement(9), ("keep", "box", "show", ("x",)))

    def test_no_statement_begins(self):
        for line in (1, 2, 3, 5, 6, 7, 10, 11):
            self.assertEqual(refused(M.statement, line), (NoStatement, line))
        for at, line in enumerate(FULL, start=1):
            if line.strip() in ("else", "after", "end") or line[0] != " ":
                self.assertEqual(refused(FULL.statement, at), (NoStatement, at))
            else:
                self.assertEqual(FULL.statement(at)[0], line.split()[0])

    def test_statements_of_random_modules(self):
        for seed in range(150):
            module = Module(Maker(seed).parts)
            begun = parse(str(module))[1]
            statements = preorder(module.parts)
            for line in range(1, len(module) + 1):
                if line in begun and module[line].startswith("  "):
                    self.assertEqual(module.statement(line), next(statements))
                else:
                    self.assertEqual(refused(module.statement, line), (NoStatement, line))
            self.assertEqual(list(statements), [])

    def test_equal_statements_on_several_lines(self):
        row = ("apart", (("fail",), ("fail",)))
        module = Module((("func", "f", "own", (row, row)), ("func", "g", "own", (row,))))
        self.assertEqual([at for at in range(1, 17) if refused(module.statement, at) is None], [2, 3, 4, 6, 7, 8, 12, 13, 14])


def preorder(nodes):
    """The statements in the nodes, in the order of their lines."""
    places = {"func": [3], "bind": [3], "apart": [1], "when": [2, 3], "held": [2, 3], "guard": [1, 2]}
    for node in nodes:
        if node[0] not in ("name", "flag", "slot", "func"):
            yield node
        for place in places.get(node[0], []):
            yield from preorder(node[place])


class CapturesTest(unittest.TestCase):
    def assert_only_with_lists_differ(self, module, other):
        self.assertIsInstance(other, Module)
        self.assertEqual(bare_parts(module.parts), bare_parts(other.parts))
        self.assertEqual(check(other.parts), other.parts)

    def test_the_module_of_the_document(self):
        self.assertEqual(M.full()[9], "    keep box show with x lit")
        self.assertEqual(M.bare()[9], "    keep box show")
        self.assertEqual(M.with_captures(Captures.of((0, "lit")))[9], "    keep box show with lit")
        self.assertEqual(refused(M.with_captures, Captures.of((1, "x"))), (NoKeeping, 1, "x"))

    def test_its_own_captures_give_the_same_module(self):
        for module in (NOTHING, M, FULL, M.full(), M.bare()):
            self.assertEqual(module.with_captures(module.captures), module)

    def test_all_captures_of_small_modules(self):
        text = "flag f = on\nname b = a\nown slot s\nname a = a\nown func g\n take s with a\n guard\n after\n  take s\n end\nend"
        module = Module.read(text)
        pairs = [(number, ident) for number in (0, 1) for ident in ("f", "b", "a")]
        for many in range(7):
            for chosen in itertools.combinations(pairs, many):
                other = module.with_captures(Captures(chosen))
                self.assert_only_with_lists_differ(module, other)
                self.assertEqual(other.captures, Captures(chosen))
                for number, row in enumerate(other.keepings):
                    # "f", "b", "a" is the order of declaration.
                    self.assertEqual(row[3], tuple([ident for ident in "fba" if (number, ident) in chosen]))
                    self.assertEqual(other.statement(row[0])[-1], row[3])

    def test_random_modules(self):
        for seed in range(100):
            module = Module(Maker(seed).parts)
            for other in (module.full(), module.bare()):
                self.assert_only_with_lists_differ(module, other)
                self.assertEqual(other.with_captures(module.captures), module)
            self.assertEqual({row[3] for row in module.full().keepings}, {module.bound} if module.keepings else set())
            self.assertEqual({row[3] for row in module.bare().keepings}, {()} if module.keepings else set())
            self.assertEqual(module.bare().captures, Captures())

    def test_every_with_list_is_replaced(self):
        other = FULL.with_captures(Captures.read("0:dim 0:x 5:y"))
        self.assertEqual([row[3] for row in other.keepings], [("x", "dim"), (), (), (), (), ("y",)])

    def test_no_keeping_with_the_first_wrong_pair(self):
        for text, error in (
            ("1:x", (NoKeeping, 1, "x")), ("0:q", (NoKeeping, 0, "q")), ("0:box", (NoKeeping, 0, "box")),
            ("0:show", (NoKeeping, 0, "show")), ("7:lit 2:x 0:x", (NoKeeping, 2, "x")), ("1:a 0:zz 0:x", (NoKeeping, 0, "zz")),
            ("1:a 0:zz 0:aa", (NoKeeping, 0, "aa")), (f"{10 ** 59}:x", (NoKeeping, 10 ** 59, "x")),
        ):
            self.assertEqual(refused(M.with_captures, Captures.read(text)), error, text)
        self.assertEqual(refused(NOTHING.with_captures, Captures.read("0:x")), (NoKeeping, 0, "x"))
        self.assertIsNone(refused(NOTHING.with_captures, Captures()))

    def test_the_module_itself_does_not_change(self):
        before = (FULL.parts, FULL.captures, FULL.keepings, str(FULL))
        captures = Captures.read("0:x")
        FULL.full(), FULL.bare(), FULL.with_captures(captures)
        self.assertEqual((FULL.parts, FULL.captures, FULL.keepings, str(FULL)), before)
        self.assertEqual(captures.pairs, ((0, "x"),))

    def test_full_and_bare_without_keepings_or_bound_names(self):
        for text in ("own func f\nend", "own slot s\nown func f\n take s\nend"):
            module = Module.read(text)
            self.assertEqual(module.full(), module)
            self.assertEqual(module.bare(), module)


if __name__ == "__main__":
    unittest.main()
