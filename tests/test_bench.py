"""Benches: points 42 and 43, and the interface of Bench."""

import unittest

from bindspan.bench import Bench
from bindspan.captures import Captures
from bindspan.edits import inlined, unwrapped, without
from bindspan.errors import (
    BadPair, Broken, GuardTwice, InUse, NoGuard, NoKeeping, NoKind, NoLine, NoStatement, NotCall, NotComparable, NothingToUndo, NotWrapped,
)
from bindspan.modules import Module
from bindspan.parting import alike, parting
from bindspan.runs import run
from bindspan.scripts import check_script, count_moves, depth_of, walk
from bindspan.views import views
from tests.plots import near, plotted
from tests.samples import M_TEXT, WRONG, refused
from tests.tracing import Traced

M = Module.read(M_TEXT)
KINDS = ("default", "bind", "now", "outer", "ended")


def read(text):
    return Module.read(text.replace(";", "\n"))


def kind_of(source):
    return source[2] if source[0] == "caller" else source[0]


def state(bench):
    return (bench.module, bench.guards(), bench.changes)


class Benching(unittest.TestCase):
    def broken(self, bench, guard, action, *values):
        """The script of the guard that a call breaks. The call changes nothing."""
        before = state(bench)
        with self.assertRaises(Broken) as caught:
            action(*values)
        self.assertEqual((state(bench), caught.exception.guard), (before, guard))
        return caught.exception.script

    def check_never(self, module, tag, kind, script, depth=None):
        """A told script makes the look show such a word, and is a smallest one."""
        self.assertIsNone(check_script(module, script))
        self.assertIn((tag, kind), [(row[0], kind_of(row[1])) for row in Traced(module, script).looks])
        found = views(module, depth=depth)
        rows = [row for row in found.looks if (row[0], kind_of(row[1])) == (tag, kind)]
        self.assertEqual(count_moves(script), min(count_moves(found.look_script(*row)) for row in rows))
        if depth is not None:
            self.assertLessEqual(depth_of(script), depth)
        for _, move in walk(script):
            names = [key for key in move[2] if key in module.idents("name")]
            self.assertIn(len(names), (0, len(module.idents("name"))))
            self.assertLessEqual(set(module.idents("flag")), set(move[2]))


class GuardsTest(Benching):
    def test_the_examples_of_the_document(self):
        bench = Bench(M)
        bench.never("seen", "now")
        self.broken(bench, ("never", "seen", "now"), bench.release, 0, "x")
        bench = Bench(M)
        bench.shown("seen")
        bench.unwrap(8)
        self.assertEqual((bench.module[8], bench.changes, bench.guards()), ("  keep box show with x", 1, [("shown", "seen")]))
        bench = Bench(M)
        inside = bench.trial(lambda b: (b.unwrap(8), b.changes, b.undo(), b.changes, b.erase(9)))
        self.assertEqual((inside, bench.changes, bench.module == M), ((None, 1, None, 0, None), 0, True))

    def test_a_new_bench(self):
        bench = Bench(M)
        self.assertEqual(state(bench), (M, [], 0))
        bench.guards().append("more")
        self.assertEqual(bench.guards(), [])

    def test_guards_that_are_kept(self):
        bench = Bench(M)
        for kind in ("default", "now", "outer", "ended"):
            self.assertIsNone(bench.never("seen", kind))
        for kind in KINDS:
            bench.never("No such tag!", kind)
            bench.never("", kind)
        self.assertIsNone(bench.shown("seen"))
        self.assertIsNone(bench.like(M.full()))
        self.assertEqual(bench.guards()[:2] + bench.guards()[-2:], [
            ("never", "seen", "default"), ("never", "seen", "now"), ("shown", "seen"), ("like", M.full()),
        ])

    def test_guards_that_are_refused(self):
        bench = Bench(M)
        script = self.broken(bench, ("never", "seen", "bind"), bench.never, "seen", "bind")
        self.check_never(M, "seen", "bind", script)
        self.assertIsNone(self.broken(bench, ("shown", "No such tag!"), bench.shown, "No such tag!"))
        script = self.broken(bench, ("like", M.bare()), bench.like, M.bare())
        self.assertEqual(count_moves(script), 2)
        self.assertNotEqual(run(M, script).events, run(M.bare(), script).events)

    def test_never_against_views(self):
        for seed in range(25):
            module = plotted(seed, names=2, flags=1, slots=2, funcs=4)
            for depth in (None, 0, 4):
                rows = [(row[0], kind_of(row[1])) for row in views(module, depth=depth).looks]
                for tag in ("t", "u", "v"):
                    bench = Bench(module, depth=depth)
                    for kind in KINDS:
                        if (tag, kind) in rows:
                            script = self.broken(bench, ("never", tag, kind), bench.never, tag, kind)
                            self.check_never(module, tag, kind, script, depth)
                        else:
                            bench.never(tag, kind)
                    if tag in [row[0] for row in rows]:
                        bench.shown(tag)
                    else:
                        self.assertIsNone(self.broken(bench, ("shown", tag), bench.shown, tag))

    def test_the_smallest_script_of_all_is_told(self):
        # Two moves tell the words of the callers apart, one move the words of the binds.
        first = read("name x = a;own slot s;open func f;take s with x;end;open func g;run s;end;open func h;bind x = b;look t x;end;end")
        second = read("name x = a;own slot s;open func f;take s;end;open func g;run s;end;open func h;bind x = c;look t x;end;end")
        bench = Bench(first)
        self.assertEqual(count_moves(self.broken(bench, ("like", second), bench.like, second)), 1)
        bench.like(first)
        self.assertEqual(count_moves(self.broken(bench, ("like", first), bench.change, second)), 1)

    def test_like_against_parting(self):
        for seed in range(30):
            module = plotted(seed, names=2, flags=1, slots=2, funcs=4)
            for other in near(module, seed):
                for depth in (None, 0):
                    bench = Bench(module, depth=depth)
                    wanted = parting(module, other, depth=depth)
                    if wanted is None:
                        bench.like(other)
                        continue
                    script = self.broken(bench, ("like", other), bench.like, other)
                    self.assertEqual(count_moves(script), count_moves(wanted))
                    self.assertNotEqual(run(module, script).events, run(other, script).events)
                    for _, move in walk(script):
                        self.assertEqual(set(move[2]), set(module.bound))

    def test_kinds(self):
        bench = Bench(M)
        for kind in ("own", "", "Now", "caller", "default ", "like", "any"):
            self.assertEqual(refused(bench.never, "seen", kind), (NoKind, kind))
        bench.never("seen", "now")
        # The kind comes before everything else.
        self.assertEqual(refused(bench.never, "seen", "own"), (NoKind, "own"))
        self.assertEqual(bench.guards(), [("never", "seen", "now")])

    def test_guards_twice(self):
        bench = Bench(M)
        bench.never("seen", "now")
        bench.shown("seen")
        bench.like(M.full())
        for action, values, guard in (
            (bench.never, ("seen", "now"), ("never", "seen", "now")), (bench.shown, ("seen",), ("shown", "seen")),
            (bench.like, (M.full(),), ("like", M.full())),
        ):
            self.assertEqual(refused(action, *values), (GuardTwice, guard))
        self.assertEqual(len(bench.guards()), 3)
        bench.never("seen", "outer")
        bench.never("other", "now")
        bench.like(M)
        self.assertEqual(len(bench.guards()), 6)

    def test_the_order_of_errors_of_like(self):
        bench = Bench(M)
        other = read("name x = blue;flag lit = off;open slot box;open func put;end")
        self.assertEqual(refused(bench.like, other), (NotComparable, "names"))
        self.assertEqual(refused(bench.like, read("name x = red;flag lit = off;open slot box")), (NotComparable, "functions"))
        self.assertEqual(refused(bench.like, read("name x = red;flag lit = off;open func put;end")), (NotComparable, "slots"))
        self.assertEqual(bench.guards(), [])
        # A guard that the bench has is told as such only if the module can still be compared.
        bench.like(M)
        self.assertEqual(refused(bench.like, M), (GuardTwice, ("like", M)))
        self.assertEqual(refused(bench.like, other), (NotComparable, "names"))

    def test_lifting(self):
        bench = Bench(M)
        for tag in ("a", "b", "c"):
            bench.never(tag, "now")
        for number in (-1, 3, 4, -3, 10 ** 30):
            self.assertEqual(refused(bench.lift, number), (NoGuard, number))
        bench.lift(1)
        self.assertEqual([guard[1] for guard in bench.guards()], ["a", "c"])
        bench.lift(1)
        bench.lift(0)
        self.assertEqual((bench.guards(), refused(bench.lift, 0)), ([], (NoGuard, 0)))
        # A guard that was lifted counts no more, and may be added again.
        bench.never("seen", "now")
        bench.lift(0)
        bench.release(0, "x")
        self.assertEqual(bench.module, M.bare())
        self.broken(bench, ("never", "seen", "now"), bench.never, "seen", "now")

    def test_depth(self):
        text = "name x = a;own slot s;open func ask;take s;run s;end;open func see;look t x;end"
        module = read(text)
        bench = Bench(module, depth=0)
        bench.never("t", "outer")
        for depth in (None, 1, 3):
            other = Bench(module, depth=depth)
            script = self.broken(other, ("never", "t", "outer"), other.never, "t", "outer")
            self.assertEqual((count_moves(script), depth_of(script)), (2, 1))
        # What is seen only inside of callbacks does not count for the bench with depth 0.
        inner = read("name x = a;own func none;end;own slot o;own slot s;open func ask;take s;keep o none;guard;run s;end;drop o;end;open func see;held o;look t x;end;end")
        Bench(inner, depth=1).shown("t")
        shallow = Bench(inner, depth=0)
        self.assertIsNone(self.broken(shallow, ("shown", "t"), shallow.shown, "t"))
        shallow.like(without(inner, 8))
        deep = Bench(inner)
        self.assertEqual(depth_of(self.broken(deep, ("like", without(inner, 8)), deep.like, without(inner, 8))), 1)


class ChangesTest(Benching):
    def test_changes_of_every_kind(self):
        text = "name x = a;own func g;look t x;end;own slot s;open func f;bind x = b;call g;end;keep s g;run s;end"
        module = read(text)
        for act, wanted in (
            (lambda bench: bench.change(M), M), (lambda bench: setattr(bench, "module", M), M), (lambda bench: bench.erase(8), without(module, 8)),
            (lambda bench: bench.unwrap(7), unwrapped(module, 7)), (lambda bench: bench.inline(8), inlined(module, 8)),
            (lambda bench: bench.capture(0, "x"), module.full()), (lambda bench: bench.release(0, "x"), module),
            (lambda bench: bench.change(module), module),
        ):
            bench = Bench(module)
            self.assertIsNone(act(bench))
            self.assertEqual((bench.module, bench.changes), (wanted, 1))
            bench.undo()
            self.assertEqual((bench.module, bench.changes), (module, 0))

    def test_erasing_a_part(self):
        bench = Bench(M)
        bench.erase(9)
        bench.erase(3)
        self.assertEqual((bench.module.idents("func"), bench.changes), (("put",), 2))

    def test_their_own_errors_come_before_broken(self):
        bench = Bench(M)
        bench.never("seen", "now")
        bench.like(M)
        for action, values, error in (
            (bench.erase, (0,), (NoLine, 0)), (bench.erase, (99,), (NoLine, 99)), (bench.erase, (10,), (NoStatement, 10)),
            (bench.erase, (1,), (InUse, 4, "x")), (bench.unwrap, (4,), (NotWrapped, 4)), (bench.unwrap, (-1,), (NoLine, -1)),
            (bench.inline, (4,), (NotCall, 4)), (bench.inline, (99,), (NoLine, 99)),
            (bench.capture, (1, "x"), (NoKeeping, 1, "x")), (bench.capture, (0, "q"), (NoKeeping, 0, "q")),
            (bench.capture, (-1, "x"), (BadPair, (-1, "x"))), (bench.capture, (0, "X"), (BadPair, (0, "X"))),
            (bench.release, (0, "end"), (BadPair, (0, "end"))), (bench.release, (10 ** 60, "x"), (BadPair, (10 ** 60, "x"))),
            (bench.capture, (10 ** 60 - 1, "x"), (NoKeeping, 10 ** 60 - 1, "x")),
        ):
            before = state(bench)
            self.assertEqual(refused(action, *values), error)
            self.assertEqual(state(bench), before)
        for value in WRONG:
            for action in (bench.capture, bench.release):
                with self.assertRaises(BadPair) as caught:
                    action(0, value)
                self.assertIs(caught.exception.pair[1], value)

    def test_release_never_finds_a_keeping_missing(self):
        bench = Bench(M)
        for number, name in ((0, "lit"), (5, "x"), (0, "q"), (10 ** 59, "z")):
            bench.release(number, name)
            self.assertEqual(bench.module, M)
        self.assertEqual(bench.changes, 4)
        bench.release(0, "x")
        self.assertEqual((bench.module, bench.changes), (M.bare(), 5))

    def test_the_first_broken_guard_is_told(self):
        bench = Bench(M)
        bench.shown("seen")
        bench.never("seen", "now")
        bench.like(M)
        bench.never("seen", "default")
        script = self.broken(bench, ("never", "seen", "now"), bench.release, 0, "x")
        self.check_never(M.bare(), "seen", "now", script)
        self.assertIsNone(self.broken(bench, ("shown", "seen"), bench.erase, 9))
        bench.lift(1)
        script = self.broken(bench, ("like", M), bench.release, 0, "x")
        self.assertEqual(count_moves(script), 2)
        bench.lift(1)
        self.check_never(M.bare(), "seen", "default", self.broken(bench, ("never", "seen", "default"), bench.release, 0, "x"))

    def test_modules_that_cannot_be_compared(self):
        bench = Bench(M)
        bench.like(M)
        self.assertIsNone(self.broken(bench, ("like", M), bench.change, Module(())))
        self.assertIsNone(self.broken(bench, ("like", M), setattr, bench, "module", read(M_TEXT.replace("red", "blue"))))
        bench.capture(0, "lit")
        self.assertEqual(bench.module, M.full())

    def test_random_changes(self):
        for seed in range(25):
            module = plotted(seed, names=2, flags=0, slots=2, funcs=4)
            bench = Bench(module)
            guards = [("like", module)]
            bench.like(module)
            rows = [(row[0], kind_of(row[1])) for row in views(module).looks]
            for tag in ("t", "u"):
                for kind in KINDS:
                    if (tag, kind) not in rows:
                        bench.never(tag, kind)
                        guards.append(("never", tag, kind))
            self.assertEqual(bench.guards(), guards)
            for other in near(module, seed):
                same = alike(other, module)
                if same:
                    bench.change(other)
                else:
                    self.broken(bench, ("like", module), bench.change, other)
            bench.lift(0)
            for other in near(module, seed):
                rows = [(row[0], kind_of(row[1])) for row in views(other).looks]
                wrong = [guard for guard in bench.guards() if guard[1:] in rows]
                if wrong:
                    self.check_never(other, *wrong[0][1:], self.broken(bench, wrong[0], bench.change, other))
                else:
                    bench.change(other)


class UndoTest(Benching):
    def test_undo(self):
        bench = Bench(M)
        self.assertEqual(refused(bench.undo), (NothingToUndo,))
        bench.unwrap(8)
        bench.release(0, "x")
        bench.change(M)
        self.assertEqual(bench.changes, 3)
        modules = [bench.module]
        for left in (2, 1, 0):
            self.assertIsNone(bench.undo())
            self.assertEqual(bench.changes, left)
            modules.append(bench.module)
        self.assertEqual(modules, [M, unwrapped(M, 8).bare(), unwrapped(M, 8), M])
        self.assertEqual(refused(bench.undo), (NothingToUndo,))

    def test_guards_are_not_taken_back(self):
        bench = Bench(M)
        bench.capture(0, "lit")
        bench.never("seen", "now")
        bench.undo()
        self.assertEqual(bench.guards(), [("never", "seen", "now")])

    def test_an_undo_that_is_refused(self):
        bench = Bench(M.bare())
        bench.capture(0, "x")
        bench.never("seen", "now")
        script = self.broken(bench, ("never", "seen", "now"), bench.undo)
        self.check_never(M.bare(), "seen", "now", script)
        self.assertEqual((bench.module, bench.changes), (M, 1))
        bench.lift(0)
        bench.undo()
        self.assertEqual((bench.module, bench.changes), (M.bare(), 0))


class TrialTest(Benching):
    def test_results(self):
        bench = Bench(M)
        for value in (None, 0, [], bench):
            self.assertIs(bench.trial(lambda inner: value), value)
        self.assertIs(bench.trial(lambda inner: inner), bench)

    def test_everything_is_as_before(self):
        bench = Bench(M)
        bench.never("seen", "now")
        bench.capture(0, "lit")
        before = state(bench)

        def action(inner):
            inner.shown("seen")
            inner.lift(0)
            inner.undo()
            inner.release(0, "x")
            inner.change(Module(())) if not inner.guards() else inner.lift(0)
            return inner.guards(), inner.changes

        self.assertEqual(bench.trial(action), ([], 1))
        self.assertEqual(state(bench), before)
        bench.undo()
        self.assertEqual(bench.module, M)
        self.broken(bench, ("never", "seen", "now"), bench.release, 0, "x")

    def test_errors_leave_it_unchanged(self):
        for error in (KeyError("x"), KeyboardInterrupt(), NothingToUndo(), StopIteration()):
            bench = Bench(M)
            bench.shown("seen")
            before = state(bench)

            def action(inner):
                inner.lift(0)
                inner.erase(9)
                raise error

            with self.assertRaises(type(error)) as caught:
                bench.trial(action)
            self.assertIs(caught.exception, error)
            self.assertIsNone(error.__cause__)
            self.assertEqual(state(bench), before)

    def test_a_guard_that_an_action_breaks(self):
        bench = Bench(M)
        bench.shown("seen")
        self.assertIsNone(self.broken(bench, ("shown", "seen"), bench.trial, lambda inner: (inner.unwrap(8), inner.erase(8))))

    def test_nested_trials(self):
        bench = Bench(M)

        def outer(one):
            one.capture(0, "lit")
            found = one.trial(lambda two: (two.release(0, "x"), two.shown("seen"), two.changes, len(two.guards())))
            return found[2:], one.module == M.full(), one.changes, one.guards()

        self.assertEqual(bench.trial(outer), ((2, 1), True, 1, []))
        self.assertEqual(state(bench), (M, [], 0))

    def test_two_benches_side_by_side(self):
        first, second = Bench(M), Bench(M, depth=0)
        first.shown("seen")
        second.never("seen", "now")

        def action(inner):
            second.capture(0, "lit")
            inner.unwrap(8)
            return second.changes

        self.assertEqual(first.trial(action), 1)
        self.assertEqual((state(first), state(second)), ((M, [("shown", "seen")], 0), (M.full(), [("never", "seen", "now")], 1)))

    def test_captures_of_a_change_are_those_of_the_module(self):
        bench = Bench(M)
        bench.capture(0, "lit")
        self.assertEqual(bench.module.captures, Captures.of((0, "x"), (0, "lit")))
        bench.capture(0, "lit")
        self.assertEqual((bench.module.captures, bench.changes), (Captures.of((0, "x"), (0, "lit")), 2))


if __name__ == "__main__":
    unittest.main()
