"""Edits, compared with edits of the text, and with runs of the modules."""

import unittest

from bindspan.checks import check
from bindspan.edits import inlined, outlined, renamed, unwrapped, without
from bindspan.errors import (
    BadIdent, InUse, NoLine, NoPart, NoStatement, NotCall, NotWrapped, Taken, TooDeep,
)
from bindspan.modules import Module
from tests.runner import Caller, events_of
from tests.samples import FULL_PARTS, KEPT, M_PARTS, WRONG, Maker, nested, refused

M = Module(M_PARTS)
FULL = Module(FULL_PARTS)
NOTHING = Module(())
BAD_IDENTS = (*KEPT, "", " ", "X", "aB", "Ab", "1a", "0", "a_b", "a-b", "a b", " a", "a\n", "x" * 13, "\u00e9", "\u0661")


def read(text):
    return Module.read(text)


def level(line):
    return (len(line) - len(line.lstrip(" "))) // 2


def last_line(lines, first):
    """The number of the last line of what begins at a line."""
    words = lines[first - 1].split()
    if words[0] not in ("bind", "apart", "when", "held", "guard") and words[1:2] != ["func"]:
        return first
    at = first + 1
    while level(lines[at - 1]) > level(lines[first - 1]) or lines[at - 1].split() != ["end"]:
        at += 1
    return at


def moved(lines, by):
    """The lines at another level."""
    return ["  " * by + line if by > 0 else line[-2 * by:] for line in lines]


def tidy(lines):
    """The lines without the dividers behind which nothing stands any more."""
    return [
        line
        for line, after in zip(lines, [*lines[1:], "end"])
        if line.split() not in (["else"], ["after"]) or after.split() != ["end"] or level(after) != level(line)
    ]


def func_line(lines, line):
    """The number of the first line of the function in which a line stands."""
    return max(at for at in range(1, line + 1) if level(lines[at - 1]) == 0 and lines[at - 1] != "end")


def text_without(lines, line):
    return tidy([*lines[:line - 1], *lines[last_line(lines, line):]])


def text_unwrapped(lines, line):
    last = last_line(lines, line)
    return tidy([*lines[:line - 1], *moved(lines[line:last - 1], -1), *lines[last:]])


def text_inlined(lines, line):
    func = lines[line - 1].split()[1]
    first = [at for at, row in enumerate(lines, start=1) if row in (f"own func {func}", f"open func {func}")][0]
    rows = moved(lines[first:last_line(lines, first) - 1], level(lines[line - 1]) - 1)
    return tidy([*lines[:line - 1], *rows, *lines[line:]])


def text_outlined(lines, line, ident):
    last, first = last_line(lines, line), func_line(lines, line)
    by = level(lines[line - 1])
    new = [f"own func {ident}", *moved(lines[line - 1:last], 1 - by), "end"]
    return [*lines[:first - 1], *new, *lines[first - 1:line - 1], "  " * by + f"call {ident}", *lines[last:]]


def text_renamed(lines, old, new):
    """The lines in which the words that are identifiers are changed: not first words, tags or words."""
    rows = []
    for line in lines:
        words = line.split()
        for at, word in enumerate(words):
            first = words[0]
            if first in ("own", "open"):
                ident = at == 2
            elif first in ("name", "flag"):
                ident = at == 1
            elif first == "look":
                ident = at == 2
            elif first == "bind":
                ident = at == 1 or len(words) == 5 and at == 4
            else:
                ident = at > 0 and not (word == "with")
            if ident and word == old:
                words[at] = new
        rows.append("  " * level(line) + " ".join(words))
    return rows


def snapshot(module):
    return (module.parts, module.bound, module.targets, module.keepings, module.captures.pairs, list(module), str(module))


def random_modules(many):
    for seed in range(many):
        yield seed, Module(Maker(seed).parts)


class EditsTest(unittest.TestCase):
    def assert_lines(self, module, lines):
        """The module is one that check accepts, with these lines."""
        self.assertIsInstance(module, Module)
        self.assertEqual(list(module), lines)
        self.assertEqual(check(module.parts), module.parts)
        self.assertEqual(Module.read("\n".join(lines)), module)

    def assert_alike(self, first, second, seed):
        """Random scripts do not part the modules."""
        self.assertEqual(first.targets, second.targets)
        self.assertEqual(first.bound, second.bound)
        for at in range(4):
            script = Caller(first, f"{seed} {at}").script(6, 2)
            self.assertEqual(events_of(first.parts, script), events_of(second.parts, script))


class LineTest(EditsTest):
    def test_no_such_line_comes_first(self):
        for module in (NOTHING, M, FULL):
            for line in (0, -1, -3, len(module) + 1, len(module) + 9, 10 ** 30, -10 ** 30):
                for action in (without, unwrapped, inlined):
                    self.assertEqual(refused(action, module, line), (NoLine, line))
                for ident in ("fresh", "end", "x", "show", "", None):
                    self.assertEqual(refused(outlined, module, line, ident), (NoLine, line))

    def test_what_is_passed_does_not_change(self):
        for seed, module in random_modules(12):
            before = snapshot(module)
            for line in range(0, len(module) + 2):
                for action in (without, unwrapped, inlined):
                    refused(action, module, line)
                refused(outlined, module, line, "fresh")
            for part in module.parts:
                refused(renamed, module, part[1], "fresh")
            self.assertEqual(snapshot(module), before)


class WithoutTest(EditsTest):
    def test_the_module_of_the_document(self):
        self.assertEqual(without(M, 9)[8], "  bind x = blue")
        self.assertEqual(refused(without, M, 1), (InUse, 4, "x"))
        self.assertEqual(without(M, 7).parts, M_PARTS[:4])
        self.assertEqual(without(M, 2).parts, M_PARTS[:1] + M_PARTS[2:])
        self.assertEqual(refused(without, M, 3), (InUse, 9, "show"))
        self.assertEqual(refused(without, M, 6), (InUse, 9, "box"))
        self.assertEqual(list(without(M, 8))[6:], ["open func put", "end"])

    def test_the_last_part(self):
        self.assertEqual(without(read("name x = a"), 1), NOTHING)
        self.assertEqual(without(read("own func f\n fail\nend"), 1), NOTHING)

    def test_lines_that_begin_nothing(self):
        for module in (M, FULL):
            for at, line in enumerate(module, start=1):
                if line.strip() in ("else", "after", "end"):
                    self.assertEqual(refused(without, module, at), (NoStatement, at))

    def test_a_function_that_only_its_own_statements_name(self):
        text = "own func f\n keep s f\nend\nown slot s\nown func g\nend"
        self.assertEqual(list(without(read(text), 1)), ["own slot s", "own func g", "end"])
        self.assertEqual(refused(without, read(text), 4), (InUse, 2, "s"))
        named = text.replace("own func g", "own func g\n held s\n else\n  keep s f\n end")
        self.assertEqual(refused(without, read(named), 1), (InUse, 8, "f"))

    def test_every_way_to_name_a_part(self):
        head = ["name x = a", "name y = b", "flag p = on", "flag q = on", "own func f", "end", "own slot s", "own slot t"]
        for ident, line in (
            ("x", "look t x"), ("x", "bind x = x"), ("x", "bind x = of y"), ("y", "bind x = of y"), ("p", "bind p = of q"),
            ("q", "bind p = of q"), ("p", "bind p = on"), ("f", "call f"), ("s", "keep s f"), ("f", "keep s f"),
            ("x", "keep s f with x"), ("q", "keep s f with x q"), ("s", "take s"), ("p", "take s with p"),
            ("s", "shift s t"), ("t", "shift s t"), ("y", "shift s t with y"), ("s", "run s"), ("s", "drop s"),
            ("p", "when p"), ("t", "held t"),
        ):
            end = ["end"] if line.split()[0] in ("bind", "when", "held") else []
            for before, after in (([], []), (["guard", "fail", "after"], ["end"])):
                module = read("\n".join([*head, "own func g", *before, line, *end, *after, "look z x", "end"]))
                at = 1 + [row.split()[1] if row.split()[0] in ("name", "flag") else row.split()[-1] for row in head].index(ident)
                self.assertEqual(refused(without, module, at), (InUse, 10 + len(before), ident), line)

    def test_the_first_statement_outside_is_told(self):
        text = "name x = a\nown func f\n look x x\nend\nown func g\n look a x\nend"
        self.assertEqual(refused(without, read(text), 1), (InUse, 3, "x"))

    def test_tags_words_and_defaults_are_no_identifiers(self):
        text = "name x = y\nname y = y\nown func f\n look y x\n bind x = y\n end\nend\nown slot seen\nown slot f2"
        self.assertEqual(without(read(text), 2)[3], "  look y x")
        self.assertEqual(without(read(text), 8)[8], "own slot f2")

    def test_the_last_statement_of_second_rows(self):
        for block, divider in (("when p", "else"), ("held s", "else"), ("guard", "after")):
            text = f"flag p = on\nown slot s\nown func f\n {block}\n  fail\n {divider}\n  drop s\n end\nend"
            self.assertEqual(
                list(without(read(text), 7)),
                ["flag p = on", "own slot s", "own func f", f"  {block}", "    fail", "  end", "end"],
            )
            self.assertEqual(without(read(text), 5)[5], f"  {divider}")
            self.assertEqual(list(without(without(read(text), 5), 6))[3:], [f"  {block}", "  end", "end"])

    def test_a_block_goes_with_its_rows(self):
        text = "own func f\n look t x\n guard\n  apart\n   fail\n  end\n after\n  fail\n end\n fail\nend\nname x = a"
        self.assertEqual(
            list(without(read(text), 3)), ["own func f", "  look t x", "  fail", "end", "name x = a"]
        )

    def test_equal_statements_are_told_apart(self):
        row = ("apart", (("fail",),))
        module = Module((("func", "f", "own", (row, row, row)),))
        for line in (3, 6, 9):
            lines = list(module)
            del lines[line - 1]
            self.assert_lines(without(module, line), lines)

    def test_random_modules(self):
        for seed, module in random_modules(60):
            lines = list(module)
            for line, text in enumerate(lines, start=1):
                if text.strip() in ("else", "after", "end"):
                    self.assertEqual(refused(without, module, line), (NoStatement, line))
                elif level(text) > 0:
                    self.assert_lines(without(module, line), text_without(lines, line))
                else:
                    self.check_part(module, lines, line)

    def check_part(self, module, lines, line):
        """A part can be removed where the text without it can be read; InUse tells the first line where it cannot."""
        ident = lines[line - 1].split()[1 if lines[line - 1].split()[0] in ("name", "flag") else 2]
        outside = [at for at in range(1, len(lines) + 1) if not line <= at <= last_line(lines, line)]
        used = [at for at in outside if text_renamed(lines, ident, "fresh")[at - 1] != lines[at - 1]]
        if used:
            self.assertEqual(refused(without, module, line), (InUse, used[0], ident))
        else:
            self.assert_lines(without(module, line), text_without(lines, line))


class UnwrappedTest(EditsTest):
    def test_the_module_of_the_document(self):
        self.assertEqual(list(unwrapped(M, 8))[6:], ["open func put", "  keep box show with x", "end"])

    def test_with_and_without_rows(self):
        for block in ("bind x = b", "bind x = of x", "bind p = off", "bind p = of p", "apart"):
            head = f"name x = a\nflag p = on\nown func f\n fail\n {block}\n"
            tail = "  end\n look t x\nend"
            self.assertEqual(list(unwrapped(read(head + tail), 5))[3:], ["  fail", "  look t x", "end"])
            inner = "   guard\n  fail\n after\n apart\nend\n  end\n look s x\n"
            self.assertEqual(list(unwrapped(read(head + inner + tail), 5))[3:], [
                "  fail", "  guard", "    fail", "  after", "    apart", "    end", "  end", "  look s x", "  look t x", "end",
            ])

    def test_the_only_statement_of_second_rows(self):
        text = "own func f\n guard\n  fail\n after\n  apart\n  end\n end\nend"
        self.assertEqual(list(unwrapped(read(text), 5)), ["own func f", "  guard", "    fail", "  end", "end"])

    def test_out_of_the_deepest_block(self):
        module = Module((("func", "f", "own", nested(8)),))
        for line in range(2, 10):
            self.assertEqual(unwrapped(module, line), Module((("func", "f", "own", nested(7)),)))

    def test_other_lines(self):
        for module in (M, FULL):
            for at, line in enumerate(module, start=1):
                if line.split()[0] not in ("bind", "apart"):
                    self.assertEqual(refused(unwrapped, module, at), (NotWrapped, at))

    def test_random_modules(self):
        for seed, module in random_modules(60):
            lines = list(module)
            for line, text in enumerate(lines, start=1):
                if text.split()[0] in ("bind", "apart"):
                    self.assert_lines(unwrapped(module, line), text_unwrapped(lines, line))
                else:
                    self.assertEqual(refused(unwrapped, module, line), (NotWrapped, line))


class InlinedTest(EditsTest):
    def test_rows_stand_in_place_of_the_call(self):
        text = "name x = a\nown func f\n look t x\n apart\n  fail\n end\nend\nown func g\n look a x\n call f\n look b x\nend"
        self.assertEqual(list(inlined(read(text), 10)), [
            "name x = a", "own func f", "  look t x", "  apart", "    fail", "  end", "end", "own func g", "  look a x",
            "  look t x", "  apart", "    fail", "  end", "  look b x", "end",
        ])

    def test_a_function_without_rows(self):
        text = "own func f\nend\nown func g\n guard\n  fail\n after\n  call f\n end\nend"
        self.assertEqual(list(inlined(read(text), 7))[2:], ["own func g", "  guard", "    fail", "  end", "end"])

    def test_calls_of_calls(self):
        text = "own func f\n fail\nend\nown func g\n call f\nend\nopen func h\n call g\n apart\n  call g\n end\nend"
        module = read(text)
        self.assertEqual(inlined(module, 8)[8], "  call f")
        self.assertEqual(list(inlined(inlined(module, 8), 8))[6:], [
            "open func h", "  fail", "  apart", "    call g", "  end", "end",
        ])

    def test_other_lines(self):
        for module in (M, FULL):
            for at, line in enumerate(module, start=1):
                if line.split()[0] != "call":
                    self.assertEqual(refused(inlined, module, at), (NotCall, at))

    def test_too_deep(self):
        for blocks in range(9):
            for inner in range(9):
                for rows in ((("fail",),), (("apart", ()),)):
                    parts = (
                        ("func", "f", "own", (("fail",), *nested(inner, rows), ("fail",))),
                        ("func", "g", "own", nested(blocks, (("fail",), ("call", "f")))),
                    )
                    module = Module(parts)
                    line = 3 + 2 * inner + (2 if rows[0][0] == "apart" else 1) + 3 + blocks + 1
                    self.assertEqual(module[line].strip(), "call f")
                    if blocks + inner > 8:
                        self.assertEqual(refused(inlined, module, line), (TooDeep, line))
                    else:
                        self.assert_lines(inlined(module, line), text_inlined(list(module), line))

    def test_at_the_bound(self):
        inside = nested(8, (("call", "f"),), "guard")
        for rows, deep in (
            ((), False), ((("fail",), ("fail",)), False), ((("fail",), ("apart", ())), False),
            ((("fail",), ("apart", (("fail",),))), True), ((("guard", (), (("fail",),)),), True),
            ((("guard", (("apart", ()),), ()), ("fail",)), True),
        ):
            module = Module((("func", "f", "own", rows), ("func", "g", "own", inside)))
            line = list(module).index("  " * 9 + "call f") + 1
            self.assertEqual(refused(inlined, module, line), (TooDeep, line) if deep else None)

    def test_random_modules(self):
        seen = 0
        for seed, module in random_modules(150):
            lines = list(module)
            for line, text in enumerate(lines, start=1):
                if text.split()[0] != "call":
                    self.assertEqual(refused(inlined, module, line), (NotCall, line))
                elif max(map(level, text_inlined(lines, line))) > 9:
                    self.assertEqual(refused(inlined, module, line), (TooDeep, line))
                else:
                    other = inlined(module, line)
                    self.assert_lines(other, text_inlined(lines, line))
                    self.assert_alike(module, other, seed)
                    seen += 1
        self.assertGreater(seen, 60)


class OutlinedTest(EditsTest):
    def test_the_module_of_the_document(self):
        self.assertEqual(list(outlined(M, 8, "fill")), [
            "name x = red", "flag lit = off", "own func show", "  look seen x", "end", "open slot box", "own func fill",
            "  bind x = blue", "    keep box show with x", "  end", "end", "open func put", "  call fill", "end",
        ])

    def test_a_statement_in_a_block(self):
        self.assertEqual(list(outlined(M, 9, "fill"))[6:], [
            "own func fill", "  keep box show with x", "end", "open func put", "  bind x = blue", "    call fill", "  end", "end",
        ])

    def test_out_of_the_deepest_block(self):
        module = Module((("func", "f", "open", nested(8)),))
        self.assertEqual(
            outlined(module, 10, "g"),
            Module((("func", "g", "own", (("fail",),)), ("func", "f", "open", nested(8, (("call", "g"),))))),
        )
        self.assertEqual(
            outlined(module, 2, "g"), Module((("func", "g", "own", nested(8)), ("func", "f", "open", (("call", "g"),))))
        )

    def test_first_and_last_statements_and_back(self):
        for seed, module in random_modules(30):
            lines = list(module)
            for line, text in enumerate(lines, start=1):
                if level(text) == 0 or text.strip() in ("else", "after", "end"):
                    continue
                first = func_line(lines, line)
                other = outlined(module, line, "fresh")
                size = last_line(lines, line) - line + 1
                call = line + size + 2
                self.assertEqual(other[call].strip(), "call fresh")
                back = inlined(other, call)
                self.assertEqual(without(back, first), module)

    def test_errors_in_their_order(self):
        for line in (1, 2, 3, 5, 6, 7, 10, 11):
            for ident in ("fresh", "x", "end", "", None):
                self.assertEqual(refused(outlined, M, line, ident), (NoStatement, line))
        for line in (4, 8, 9):
            for ident in BAD_IDENTS:
                self.assertEqual(refused(outlined, M, line, ident), (BadIdent, ident))
            for ident in ("x", "lit", "show", "box", "put"):
                self.assertEqual(refused(outlined, M, line, ident), (Taken, ident))
            for ident in ("seen", "red", "blue", "a" * 12, "names", "f1"):
                self.assertIsNone(refused(outlined, M, line, ident))

    def test_identifiers_of_any_kind(self):
        for value in WRONG:
            try:
                outlined(M, 4, value)
                self.fail("not refused")
            except BadIdent as error:
                self.assertIs(error.ident, value)

    def test_random_modules(self):
        for seed, module in random_modules(40):
            lines = list(module)
            for line, text in enumerate(lines, start=1):
                if level(text) == 0 or text.strip() in ("else", "after", "end"):
                    self.assertEqual(refused(outlined, module, line, "fresh"), (NoStatement, line))
                else:
                    other = outlined(module, line, "fresh")
                    self.assert_lines(other, text_outlined(lines, line, "fresh"))
                    self.assert_alike(module, other, seed)


class RenamedTest(EditsTest):
    def test_the_module_of_the_document(self):
        self.assertEqual(list(renamed(M, "x", "y")), [
            "name y = red", "flag lit = off", "own func show", "  look seen y", "end", "open slot box", "open func put",
            "  bind y = blue", "    keep box show with y", "  end", "end",
        ])
        self.assertEqual(renamed(M, "show", "seen")[4], "  look seen x")
        self.assertEqual(renamed(M, "show", "seen")[9], "    keep box seen with x")
        self.assertEqual(renamed(M, "lit", "dim")[2], "flag dim = off")
        self.assertEqual(renamed(M, "put", "go").targets, (("run", "box"), ("call", "go")))

    def test_tags_words_and_defaults_stay(self):
        text = "name x = x\nname y = x\nown func f\n  look x x\n  bind x = x\n  end\n  bind x = of x\n  end\n  bind y = x\n  end\nend"
        self.assertEqual(list(renamed(read(text), "x", "z")), [
            "name z = x", "name y = x", "own func f", "  look x z", "  bind z = x", "  end", "  bind z = of z", "  end",
            "  bind y = x", "  end", "end",
        ])

    def test_errors_in_their_order(self):
        for new in ("fresh", "x", "end", "", None, "q"):
            for old in ("q", "seen", "red", "name", ""):
                self.assertEqual(refused(renamed, M, old, new), (NoPart, old))
        for old in ("x", "lit", "show", "box", "put"):
            for new in BAD_IDENTS:
                self.assertEqual(refused(renamed, M, old, new), (BadIdent, new))
            for new in ("x", "lit", "show", "box", "put"):
                self.assertEqual(refused(renamed, M, old, new), (Taken, new))
            for new in ("seen", "red", "blue", "a" * 12, "names", "f1"):
                self.assertIsNone(refused(renamed, M, old, new))
        self.assertEqual(refused(renamed, NOTHING, "x", "y"), (NoPart, "x"))

    def test_identifiers_of_any_kind(self):
        for value in WRONG:
            try:
                renamed(M, "x", value)
                self.fail("not refused")
            except BadIdent as error:
                self.assertIs(error.ident, value)

    def test_with_lists_keep_their_order(self):
        text = "name x = a\nname b = a\nname z = a\nown slot s\nown func f\n  take s with x b z\nend"
        self.assertEqual(renamed(read(text), "x", "zz")[6], "  take s with zz b z")
        self.assertEqual(renamed(read(text), "b", "a")[6], "  take s with x a z")

    def test_random_modules(self):
        for seed, module in random_modules(40):
            for part in module.parts:
                other = renamed(module, part[1], "fresh")
                self.assert_lines(other, text_renamed(list(module), part[1], "fresh"))
                self.assertEqual(renamed(other, "fresh", part[1]), module)
                if part[0] in ("slot", "func") and part[2] == "own":
                    self.assert_alike(module, other, seed)


if __name__ == "__main__":
    unittest.main()
