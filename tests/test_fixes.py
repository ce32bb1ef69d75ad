"""Fixes and idle lines: points 28 and 32 to 34, and the interface of Fix."""

import time
import unittest

from bindspan.captures import Captures, candidates
from bindspan.edits import without
from bindspan.errors import NoKeeping, NotComparable, TooMany
from bindspan.fixes import Fix, fewest, idle_lines, wrong_row
from bindspan.modules import Module
from bindspan.parting import alike
from bindspan.runs import run
from bindspan.scripts import check_script, depth_of
from tests.plots import plotted, statement_lines
from tests.samples import M_TEXT, WRONG, refused
from tests.test_parting import FIX_TEXT

M = Module.read(M_TEXT)
FOUR = Module.read(FIX_TEXT)
PUT = ("call", "put", {}, ())
RUN = ("run", "box", {}, ())


def read(text):
    return Module.read(text.replace(";", "\n"))


def with_pairs(module, free, candidate):
    return module.with_captures((module.captures - free) | candidate)


class Fixing(unittest.TestCase):
    def check_fix(self, module, wished, free=None, depth=None):
        """The fix, after all that is promised of it was checked."""
        fix = fewest(module, wished, free=free, depth=depth)
        pairs = module.full().captures if free is None else free
        rows = list(candidates(pairs))
        self.assertEqual([row[0] for row in fix.against], rows[:len(fix)])
        for candidate, script in fix.against:
            other = with_pairs(module, pairs, candidate)
            self.assertIsNone(check_script(module, script))
            self.assertNotEqual(run(other, script).events, run(wished, script).events)
            if depth is not None:
                self.assertLessEqual(depth_of(script), depth)
        if fix.chosen is None:
            self.assertEqual(len(fix), len(rows))
        else:
            self.assertEqual(fix.chosen, rows[len(fix)])
            self.assertTrue(alike(with_pairs(module, pairs, fix.chosen), wished, depth=depth))
        self.assertIs(bool(fix), fix.chosen is not None)
        self.assertIsNone(wrong_row(module, wished, fix, free=free, depth=depth))
        return fix


class FewestTest(Fixing):
    def test_the_examples_of_the_document(self):
        fix = fewest(M.bare(), M)
        self.assertEqual((str(fix.chosen), [str(row[0]) for row in fix.against]), ("0:x", ["", "0:lit"]))
        self.assertEqual((wrong_row(M.bare(), M, fix), wrong_row(M.bare(), M, Fix(fix.chosen, fix.against[1:]))), (None, 0))

    def test_the_module_with_four_sets_of_captures(self):
        self.assertEqual(str(self.check_fix(FOUR, FOUR.full()).chosen), "")
        one, other = FOUR.with_captures(Captures.of((0, "x"))), FOUR.with_captures(Captures.of((1, "x")))
        self.assertEqual([str(self.check_fix(FOUR, wished).chosen) for wished in (one, other)], ["0:x", "1:x"])
        # Where one pair is not free, but captured, more captures can be needed.
        fix = self.check_fix(one, FOUR.bare(), Captures.of((1, "x")))
        self.assertEqual((str(fix.chosen), [str(row[0]) for row in fix.against]), ("1:x", [""]))
        fix = self.check_fix(one, other, Captures.of((1, "x")))
        self.assertEqual((fix.chosen, len(fix)), (None, 2))

    def test_free_pairs_that_the_module_does_not_capture(self):
        self.assertEqual(str(self.check_fix(M.bare(), M, Captures.of((0, "x"))).chosen), "0:x")
        fix = self.check_fix(M.bare(), M, Captures.of((0, "lit")))
        self.assertEqual((fix.chosen, len(fix), bool(fix)), (None, 2, False))
        # The captures that are not free stay.
        fix = self.check_fix(M.full(), M, Captures.of((0, "lit")))
        self.assertEqual((str(fix.chosen), len(fix)), ("", 0))
        fix = self.check_fix(M, M.bare(), Captures())
        self.assertEqual((fix.chosen, len(fix)), (None, 1))

    def test_depth_counts(self):
        # Only a move inside the callback sees what was kept without the word.
        text = (
            "name x = a;own func show;look t x;end;own slot s;own slot o;open func ask;keep o show;take s;bind x = b;guard;run s;end;end;"
            "drop o;end;open func see;bind x = c;run o;end;end"
        )
        module = read(text)
        wished = module.with_captures(Captures.of((0, "x")))
        free = Captures.of((0, "x"))
        self.assertEqual([str(self.check_fix(module, wished, free, depth).chosen) for depth in (None, 0, 1, 2, 5)], ["0:x", "", "0:x", "0:x", "0:x"])

    def test_all_pairs_are_free_by_default(self):
        for seed in range(60):
            module = plotted(seed, names=1, flags=0, slots=2, funcs=3)
            if len(module.keepings) <= 4:
                for wished in (module.full(), module.bare(), module):
                    self.check_fix(module, wished)

    def test_some_free_pairs(self):
        for seed in range(40):
            module = plotted(seed, names=2, flags=1, slots=2, funcs=4)
            free = Captures(module.full().captures.pairs[:4])
            for depth in (None, 0):
                self.check_fix(module, module.full(), free, depth)
                self.check_fix(module.full(), module, free, depth)

    def test_eight_free_pairs(self):
        text = "name x = a;name y = b;" + "".join(f"own slot s{at};" for at in range(4)) + "open func f;" + "".join(f"take s{at};" for at in range(4))
        text += "end;open func g;bind x = c;bind y = d;" + "".join(f"guard;run s{at};end;" for at in range(4)) + "end;end;end"
        module = read(text)
        began = time.process_time()
        fix = self.check_fix(module, module.full())
        self.assertEqual((len(fix.chosen), len(fix)), (8, 255))
        self.assertLess(time.process_time() - began, 60)

    def test_errors_in_their_order(self):
        many = read("name x = a;name y = a;name z = a;own slot s;open func f;take s;take s;take s;end")
        other = read("name x = b;name y = a;name z = a;own slot s;open func f;end")
        fix = Fix(None, ())

        def asked(module, wished, free):
            found = [refused(lambda: fewest(module, wished, free=free)), refused(lambda: wrong_row(module, wished, fix, free=free))]
            self.assertEqual(found[0], found[1])
            return found[0]

        nine = many.full().captures
        self.assertEqual(asked(many, many, None), (TooMany, 9))
        self.assertEqual(asked(many, many, nine), (TooMany, 9))
        self.assertEqual(asked(many, many, nine | [(5, "x")]), (NoKeeping, 5, "x"))
        self.assertEqual(asked(many, many, Captures.of((7, "x"), (0, "q"), (1, "x"))), (NoKeeping, 0, "q"))
        self.assertEqual(asked(many, many, Captures.of((3, "x"))), (NoKeeping, 3, "x"))
        self.assertEqual(asked(many, many, Captures.of((0, "s"))), (NoKeeping, 0, "s"))
        self.assertEqual(asked(many, other, Captures.of((3, "x"))), (NotComparable, "names"))
        self.assertEqual(asked(M, without(M, 9), Captures()), None)
        self.assertEqual(asked(M, read("name x = red;flag lit = off;open slot box"), None), (NotComparable, "functions"))
        self.assertEqual(asked(M, read("name x = red;flag lit = off;open func put;end"), None), (NotComparable, "slots"))


class WrongRowTest(Fixing):
    def setUp(self):
        self.module, self.wished = M.bare(), M
        self.fix = fewest(self.module, self.wished)
        self.rows = self.fix.against

    def asked(self, chosen, against, **words):
        return wrong_row(self.module, self.wished, Fix(chosen, against), **words)

    def test_wrong_candidates(self):
        chosen, (first, second) = self.fix.chosen, self.rows
        self.assertIsNone(self.asked(chosen, [first, second]))
        self.assertEqual(self.asked(chosen, [second, first]), 0)
        self.assertEqual(self.asked(chosen, [first, first]), 1)
        self.assertEqual(self.asked(chosen, [first]), 1)
        self.assertEqual(self.asked(chosen, []), 0)
        self.assertEqual(self.asked(chosen, [first, second, (chosen, first[1])]), 2)
        self.assertEqual(self.asked(chosen, [first, (Captures.of((9, "x")), second[1])]), 1)

    def test_wrong_choices(self):
        first, second = self.rows
        for chosen in (None, Captures(), Captures.of((0, "lit")), Captures.of((0, "lit"), (0, "x")), Captures.of((5, "q"))):
            self.assertEqual(self.asked(chosen, [first, second]), 2)
        # A choice that is the right candidate, but is not alike.
        self.assertEqual(self.asked(Captures.of((0, "lit")), [first]), 1)

    def test_no_choice(self):
        free = Captures.of((0, "lit"))
        fix = fewest(self.module, self.wished, free=free)
        self.assertIsNone(self.asked(None, fix.against, free=free))
        self.assertEqual(self.asked(None, fix.against[:1], free=free), 1)
        self.assertEqual(self.asked(Captures.of((0, "lit"), (0, "x")), fix.against, free=free), 2)
        self.assertEqual(self.asked(None, [*fix.against, fix.against[0]], free=free), 2)
        self.assertEqual(self.asked(fix.against[0][0], [*fix.against, fix.against[0]], free=free), 2)

    def test_wrong_scripts(self):
        chosen, (first, second) = self.fix.chosen, self.rows
        wrong = [
            (), [], (PUT,), (RUN,), [PUT, ("run", "box", {"x": "blue"}, ())], [PUT, RUN, ("call", "show", {}, ())],
            [["call", "put", {}, ()], RUN], [PUT, ("run", "box", {"x": "No"}, ())], {"a": PUT}, "text", None, (PUT, RUN, None),
            (PUT, ("run", "box", {"q": "a"}, ())), (PUT, ("run", "box", {}, [((PUT, 1), "return")])),
        ]
        for script in (*wrong, *[value for value in WRONG if type(value).__name__ != "Spiteful"]):
            for at in (0, 1):
                rows = [first, second]
                rows[at] = (rows[at][0], script)
                self.assertEqual(self.asked(chosen, rows), at, script)
        for script in ([PUT, RUN], (PUT, ("run", "box", {"x": "green"}, [])), [("run", "box", {}, ()), PUT, RUN, PUT]):
            self.assertIsNone(self.asked(chosen, [(first[0], script), second]), script)

    def test_scripts_that_are_too_deep(self):
        text = "name x = a;own slot s;open func ask;take s;end;open func go;bind x = b;run s;end;end"
        module = read(text)
        wished = module.full()
        shallow = fewest(module, wished)
        first = [("call", "ask", {}, ()), ("call", "go", {}, [([("call", "ask", {}, ())], "return")])]
        fix = Fix(shallow.chosen, [(shallow.against[0][0], first), *shallow.against[1:]])
        self.assertEqual([wrong_row(module, wished, fix, depth=depth) for depth in (None, 0, 1, 4)], [None, 0, None, None])

    def test_a_fix_for_another_question(self):
        fix = fewest(FOUR, FOUR.with_captures(Captures.of((1, "x"))))
        self.assertIsNone(wrong_row(FOUR, FOUR.with_captures(Captures.of((1, "x"))), fix))
        self.assertEqual(wrong_row(FOUR, FOUR.with_captures(Captures.of((0, "x"))), fix), 1)
        self.assertEqual(wrong_row(FOUR, FOUR.bare(), fix), 0)

    def test_arguments_are_not_changed(self):
        script = [PUT, ("run", "box", {"x": "green"}, [])]
        fix = Fix(self.fix.chosen, [(self.rows[0][0], script), self.rows[1]])
        wrong_row(self.module, self.wished, fix)
        self.assertEqual(fix.against[0][1], [PUT, ("run", "box", {"x": "green"}, [])])


class FixTest(unittest.TestCase):
    def test_fields(self):
        fix = Fix(None, [])
        self.assertEqual((fix.chosen, fix.against, bool(fix), len(fix)), (None, (), False, 0))
        chosen = Captures()
        fix = Fix(chosen, [(Captures.of((0, "x")), [])])
        # An empty candidate is a choice, although it is false as a condition.
        self.assertEqual((fix.chosen, fix.against, bool(fix), len(fix)), (chosen, ((Captures.of((0, "x")), []),), True, 1))
        self.assertIs(bool(fix), True)
        self.assertIs(bool(Fix(None, [(chosen, ())])), False)

    def test_lists_stay_lists_and_tuples_stay_tuples(self):
        script = [("run", "box", {"x": ["a", ("b", [1])]}, ([], [((), "return")])), {"k": [{"l": ()}]}]
        row = (Captures(), script)
        for rows in ([row], (row,)):
            fix = Fix(None, rows)
            self.assertEqual(fix.against, ((Captures(), script),))
            copied = fix.against[0][1]
            self.assertEqual(repr(copied), repr(script))
            self.assertIsNot(copied, script)
            script[0][2]["x"].append("more")
            script[1]["k"][0]["l"] = "spoilt"
            script.append("more")
            self.assertEqual(copied, [("run", "box", {"x": ["a", ("b", [1])]}, ([], [((), "return")])), {"k": [{"l": ()}]}])
            script.pop()
            script[0][2]["x"].pop()
            script[1]["k"][0]["l"] = ()

    def test_rows_are_copied(self):
        rows = [(Captures(), ())]
        fix = Fix(None, rows)
        rows.append((Captures(), ()))
        self.assertEqual(len(fix), 1)

    def test_scripts_of_any_kind(self):
        for value in WRONG:
            self.assertEqual(len(Fix(None, [(Captures(), value)])), 1)


class IdleLinesTest(unittest.TestCase):
    def test_the_examples_of_the_document(self):
        self.assertEqual(idle_lines(M), [])
        self.assertEqual(idle_lines(Module.read("name x = a\nopen func f\nbind x = b\nend\nlook t x\nend")), [3])

    def test_each_statement_alone(self):
        # Each of two drops is idle beside the other one.
        self.assertEqual(idle_lines(read("name x = a;own slot s;open func f;take s;run s;drop s;drop s;end;open func g;run s;end")), [6, 7])
        # Statements in an own function that nothing calls, blocks and what lies in them.
        self.assertEqual(idle_lines(read("name x = a;own func f;look t x;apart;fail;end;end;open func g;guard;look t x;end;end")), [3, 4, 5])
        self.assertEqual(idle_lines(read("name x = a;open func g;apart;bind x = a;look t x;end;end;end")), [])
        self.assertEqual(idle_lines(read("")), [])
        self.assertEqual(idle_lines(read("name x = a;flag p = on;own slot s")), [])

    def test_depth_counts(self):
        text = (
            "name x = a;own func none;end;own slot s;own slot o;open func ask;take s;keep o none;guard;run s;end;drop o;end;"
            "open func see;held o;look t x;end;end"
        )
        module = read(text)
        self.assertEqual(idle_lines(module), [])
        self.assertEqual(idle_lines(module, depth=0), [8, 15, 16])
        self.assertEqual(idle_lines(module, depth=1), [])

    def test_random_modules(self):
        for seed in range(40):
            module = plotted(seed, names=1, flags=1, slots=2, funcs=3)
            wanted = [line for line in statement_lines(module) if alike(module, without(module, line))]
            found = idle_lines(module)
            self.assertEqual(found, wanted)
            found.append(0)
            self.assertEqual(idle_lines(module), wanted)


if __name__ == "__main__":
    unittest.main()
