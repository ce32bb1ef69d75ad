"""Where words come from: points 29 to 31, and the interface of Views."""

import time
import unittest

from bindspan.errors import NotSeen
from bindspan.modules import Module
from bindspan.runs import run
from bindspan.scripts import check_script, count_moves, depth_of, walk
from bindspan.trees import words_in
from bindspan.views import views
from tests.callers import all_scripts
from tests.plots import plotted
from tests.runner import Caller
from tests.samples import M_TEXT, WRONG, Odd, refused
from tests.test_parting import FIX_TEXT
from tests.tracing import Traced

M = Module.read(M_TEXT)


def read(text):
    return Module.read(text.replace(";", "\n"))


def caller(name, kind):
    return ("caller", name, kind)


class Viewing(unittest.TestCase):
    def check_script_of(self, module, script, depth=None):
        """A told script has the promised form."""
        self.assertIsNone(check_script(module, script))
        if depth is not None:
            self.assertLessEqual(depth_of(script), depth)
        words = []
        self.assertIs(type(script), tuple)
        for _, move in walk(script):
            self.assertIs(type(move[3]), tuple)
            for reaction in move[3]:
                self.assertEqual((type(reaction), type(reaction[0])), (tuple, tuple))
            given = [key for key in move[2] if key in module.idents("name")]
            self.assertIn(sorted(given), ([], sorted(module.idents("name"))))
            self.assertEqual({key for key in move[2] if key not in given}, set(module.idents("flag")))
            words += [move[2][name] for name in given]
        self.assertEqual(len(set(words)), len(words))
        self.assertFalse(set(words) & set(words_in(module.parts)))
        return count_moves(script)

    def counts(self, module, depth=None):
        """For each row of both tuples the count of its script, after all that is promised of it was checked."""
        found = views(module, depth=depth)
        counts = {}
        for rows, script_of, kind in (
            (found.looks, found.look_script, "looks"), (found.callbacks, found.callback_script, "callbacks"),
        ):
            self.assertEqual(rows, tuple(sorted(set(rows))))
            for row in rows:
                script = script_of(*row)
                counts[kind, row] = self.check_script_of(module, script, depth)
                self.assertIn(row, getattr(Traced(module, script), kind))
        self.assertEqual(len(found), len(counts))
        return counts

    def looks(self, text, depth=None):
        module = read(text)
        self.counts(module, depth)
        return [row[1] for row in views(module, depth=depth).looks if row[0] == "t"]

    def callbacks(self, text, depth=None):
        module = read(text)
        self.counts(module, depth)
        return [row[1] for row in views(module, depth=depth).callbacks if row[0] == "x"]


class LooksTest(Viewing):
    def test_the_examples_of_the_document(self):
        self.assertEqual(views(M).looks, (("seen", ("bind", 8)),))
        self.assertEqual(views(M.bare()).looks, (("seen", caller("x", "now")), ("seen", ("default", "x"))))
        self.assertEqual([move[:2] for move in views(M).look_script("seen", ("bind", 8))], [("call", "put"), ("run", "box")])
        text = "name x = red;own func show;look t x;end;open slot box;open func put;keep box show with x;end"
        self.assertEqual(self.looks(text), [caller("x", "ended"), ("default", "x")])
        text = "name x = red;own slot s;open func ask;take s;run s;end;open func see;look t x;end"
        self.assertEqual(self.looks(text), [caller("x", "now"), caller("x", "outer"), ("default", "x")])
        text = "name u = nobody;own slot s;open func ask;take s with u;end;open func go;run s;end"
        self.assertEqual(views(read(text), depth=0).callbacks, (("u", caller("u", "own")), ("u", ("default", "u"))))

    def test_defaults(self):
        self.assertEqual(self.looks("name x = a;open func f;look t x;end"), [caller("x", "now"), ("default", "x")])
        self.assertEqual(self.looks("name x = a;open func f;apart;look t x;end;end"), [("default", "x")])
        self.assertEqual(self.looks("name x = a;name y = a;open func f;apart;bind x = of y;look t x;end;end;end"), [("default", "y")])
        self.assertEqual(self.looks("name x = a;open func f;end"), [])
        self.assertEqual(self.looks("name x = a;own func f;look t x;end"), [])

    def test_binds_with_the_same_word_are_two_sources(self):
        text = "name x = a;flag p = on;open func f;bind x = b;when p;bind x = b;look t x;end;else;look t x;end;end;end"
        self.assertEqual(self.looks(text), [("bind", 4), ("bind", 6)])
        self.assertEqual(self.looks("name x = a;open func f;bind x = a;look t x;end;end"), [("bind", 3)])

    def test_lines_are_those_of_the_canonical_text(self):
        module = Module.read("# a\n\nname x = a\nopen func f\n\nbind x = b\nlook t x\nend\nend")
        self.assertEqual(views(module).looks, (("t", ("bind", 3)),))

    def test_sources_are_passed_on(self):
        text = "name x = a;name y = b;open func f;bind x = c;bind y = of x;bind x = of y;look t x;end;end;end;end"
        self.assertEqual(self.looks(text), [("bind", 4)])
        text = "name x = a;name y = b;open func f;bind x = of y;look t x;end;end"
        self.assertEqual(self.looks(text), [caller("y", "now"), ("default", "y")])
        # Through a capture and a shift, in a slot that a later move runs.
        text = (
            "name x = a;own func show;look t x;end;own slot s;open slot o;open func f;bind x = b;keep s show;shift s o with x;end;end"
        )
        self.assertEqual(self.looks(text), [("bind", 8)])

    def test_now_outer_and_ended(self):
        text = "name x = a;own func show;look t x;end;own slot s;own slot o;open func ask;keep o show with x;take s;guard;run s;end;end;open func see;run o;end"
        self.assertEqual(self.looks(text), [caller("x", "ended"), caller("x", "outer"), ("default", "x")])
        # Without moves inside of callbacks there is no outer move.
        self.assertEqual(self.looks(text, 0), [caller("x", "ended"), ("default", "x")])
        self.assertEqual(self.looks(text.replace("run s;end", "run o;end"), 0), [caller("x", "ended"), caller("x", "now"), ("default", "x")])

    def test_an_inner_move_hands_out_what_the_outer_one_goes_on_with(self):
        # The outer move looks at what the inner one has kept: a word of the inner move, which has ended then, or the word
        # of the outer move, if the inner one has not bound the name.
        text = "name x = a;own func show;look t x;end;own slot s;own slot o;open func ask;drop o;take s;run s;run o;drop o;end;open func put;keep o show with x;end"
        every = [caller("x", "ended"), caller("x", "now"), caller("x", "outer"), ("default", "x")]
        self.assertEqual([self.looks(text, depth) for depth in (None, 0, 1, 2)], [every, [], [row for row in every if row[-1] != "outer"], every])

    def test_settings_pass_on_what_moves_do_not_bind(self):
        text = "name x = a;own slot s;open func ask;bind x = b;take s;run s;end;end;open func see;look t x;end"
        self.assertEqual(self.looks(text), [("bind", 4), caller("x", "now"), ("default", "x")])
        text = "name x = a;name y = a;own slot s;open func ask;bind x = of y;take s;run s;end;end;open func see;look t x;end"
        self.assertEqual(self.looks(text), [caller("x", "now"), caller("y", "outer"), ("default", "x"), ("default", "y")])

    def test_flags_are_bound_in_all_ways(self):
        text = "name x = a;flag p = off;flag q = off;open func f;when p;when q;else;look t x;end;end;end"
        self.assertEqual(self.looks(text), [caller("x", "now"), ("default", "x")])
        self.assertEqual(self.looks(text.replace("look t x", "bind p = off;when p;look t x;end;end")), [])


class CallbacksTest(Viewing):
    def test_own(self):
        text = "name x = a;own slot s;open func ask;take s with x;end;open func go;run s;end"
        self.assertEqual(self.callbacks(text, 0), [caller("x", "own"), ("default", "x")])
        # A move inside of a callback takes over the word of the move that handed this one in.
        self.assertEqual(self.callbacks(text), [caller("x", "ended"), caller("x", "own"), ("default", "x")])

    def test_now_outer_and_ended(self):
        text = "name x = a;own slot s;open func ask;take s;end;open func go;run s;end"
        self.assertEqual(self.callbacks(text, 0), [caller("x", "now"), ("default", "x")])
        # From depth 1 on, moves inside callbacks see the words of moves that last; a callback of theirs has its own.
        self.assertEqual(self.callbacks(text, 1), [caller("x", "now"), caller("x", "outer"), ("default", "x")])
        self.assertEqual(self.callbacks(text.replace("take s;", "take s;run s;")), [caller("x", "now"), caller("x", "outer"), caller("x", "own"), ("default", "x")])

    def test_own_stands_in_place_of_the_other_kinds(self):
        # The callback runs in its own move, whose bindings it sees: own, and not now.
        self.assertEqual(self.callbacks("name x = a;own slot s;open func ask;take s;run s;drop s;end", 0), [caller("x", "own"), ("default", "x")])
        # The callback of another move sees the same word as now.
        text = "name x = a;own slot s;own slot r;open func first;take r;end;open func ask;run r;end"
        self.assertEqual(self.callbacks(text, 0), [caller("x", "now"), ("default", "x")])

    def test_words_of_another_move_that_has_ended(self):
        text = "name x = a;own slot s;open slot r;open func ask;take s with x;end;open func more;take s;shift s r with x;end;open func put;shift s r;end"
        self.assertEqual(self.callbacks(text, 0), [caller("x", "own"), ("default", "x")])
        # A function runs the callback, and was kept with a word of an older move.
        text = "name x = a;own slot s;own func f;run s;end;open slot o;open func put;keep o f with x;end;open func ask;take s;end"
        self.assertEqual(self.callbacks(text, 0), [caller("x", "ended"), ("default", "x")])

    def test_binds(self):
        text = "name x = a;own slot s;open func ask;take s;end;open func go;bind x = b;run s;end;end"
        self.assertEqual(self.callbacks(text), [("bind", 7)])
        self.assertEqual(self.looks(text), [])

    def test_all_names_but_no_flags(self):
        module = read("name x = a;flag p = on;name y = b;own slot s;open func ask;take s with y;end;open func go;run s;end")
        self.assertEqual({row[0] for row in views(module).callbacks}, {"x", "y"})


class ViewsTest(Viewing):
    def test_membership_and_length(self):
        module = read("name x = a;own slot s;open func ask;take s;look t x;end;open func go;run s;end")
        found = views(module)
        self.assertEqual(len(found), len(found.looks) + len(found.callbacks))
        self.assertTrue(found.looks and found.callbacks)
        for row in found.looks:
            self.assertIn(row, found)
        for row in (*found.callbacks, ("t", ["default", "x"]), ("t",), ("t", ("default", "x"), 1), ["t", ("default", "x")], ("t", ("bind", 1))):
            self.assertNotIn(row, found)
        for value in WRONG:
            try:
                self.assertIs(value in found, isinstance(value, Odd))
            except AssertionError as error:
                # A value that refuses to be compared may do so here, too.
                self.assertEqual(str(error), "compared")

    def test_rows_that_are_not_there(self):
        module = read("name x = a;own slot s;open func ask;take s;look t x;end;open func go;run s;end")
        found = views(module)
        for row in (("u", ("default", "x")), ("t", ("default", "y")), ("t", caller("x", "own")), ("t", ("bind", 5)), ("x", ("default", "x"))):
            self.assertEqual(refused(found.look_script, *row), (NotSeen, row))
        for row in (("t", ("default", "x")), ("y", ("default", "x")), ("x", caller("x", "ended")), ("x", ("bind", 5))):
            self.assertEqual(refused(found.callback_script, *row), (NotSeen, row))

    def test_new_at_each_call(self):
        found = views(M)
        script = found.look_script("seen", ("bind", 8))
        script[0][2]["lit"] = "spoilt"
        self.assertIn(found.look_script("seen", ("bind", 8))[0][2]["lit"], ("on", "off"))

    def test_new_words(self):
        module = read("name w1 = w3;open func f;look t w1;bind w1 = w2;look t w1;end;end")
        script = views(module).look_script("t", caller("w1", "now"))
        self.assertNotIn(script[0][2]["w1"], ("w2", "w3"))

    def test_an_empty_module(self):
        found = views(Module(()))
        self.assertEqual((found.looks, found.callbacks, len(found)), ((), (), 0))

    def test_bounds_on_the_depth(self):
        # Only in the third move inside of each other there is a look.
        text = (
            "name x = a;own func none;end;own slot s;own slot a;own slot b;open func go;held b;look t x;else;held a;keep b none;else;"
            "keep a none;end;end;take s;guard;run s;end;drop a;drop b;end"
        )
        for depth in (0, 1):
            self.assertEqual(self.looks(text, depth), [])
        for depth in (2, 3, 5, 10 ** 30, None):
            self.assertEqual(self.looks(text, depth), [caller("x", "now"), caller("x", "outer"), ("default", "x")])
            self.assertEqual(self.counts(read(text), depth)["looks", ("t", ("default", "x"))], 3)

    def test_the_module_of_the_document_with_four_sets_of_captures(self):
        module = Module.read(FIX_TEXT)
        for pairs, word in ((module.full(), "one"), (module.bare(), "one")):
            sources = [row[1] for row in views(pairs).looks]
            self.assertEqual([pairs.statement(source[1])[2][1] for source in sources], [word])

    def test_views_show_what_runs_show(self):
        for text in (M_TEXT, FIX_TEXT):
            module = Module.read(text)
            for row in views(module).looks:
                script = views(module).look_script(*row)
                self.assertIn(module.statement(row[1][1])[2][1], run(module, script).words("seen"))


class AllCallersTest(Viewing):
    """Rows and scripts against all callers with few moves."""

    def compare(self, seeds, most, **sizes):
        kinds = set()
        for seed in seeds:
            module = plotted(seed, **sizes)
            for depth in (None, 0, 1):
                counts = self.counts(module, depth)
                kinds |= {(kind, row[1][2] if row[1][0] == "caller" else row[1][0]) for kind, row in counts}
                for count in range(1, most + 1):
                    for script, _ in all_scripts(module, count, depth, (True, False), 2000):
                        seen = Traced(module, script)
                        for kind, rows in (("looks", seen.looks), ("callbacks", seen.callbacks)):
                            for row, begun in rows.items():
                                self.assertLessEqual(counts.get((kind, row), 99), begun, (seed, depth, script))
        return kinds

    def test_one_name(self):
        kinds = self.compare(range(40), 3, names=1, flags=0, slots=2, funcs=3, size=4)
        self.assertTrue({("looks", kind) for kind in ("default", "bind", "now", "outer", "ended")} <= kinds)
        self.assertTrue({("callbacks", kind) for kind in ("default", "bind", "now", "outer", "ended", "own")} <= kinds)

    def test_two_names(self):
        self.compare(range(20), 2, names=2, flags=0, slots=3, funcs=4)

    def test_names_and_flags(self):
        self.compare(range(10), 2, names=2, flags=1, slots=2, funcs=4)

    def test_random_callers_see_nothing_else(self):
        for seed in range(100):
            module = plotted(seed, names=2, flags=1, slots=2, funcs=4)
            found = views(module)
            for number in range(15):
                seen = Traced(module, Caller(module, number).script(5, 3))
                self.assertLessEqual(set(seen.looks), set(found.looks), seed)
                self.assertLessEqual(set(seen.callbacks), set(found.callbacks), seed)

    def test_a_greater_depth_shows_no_less(self):
        for seed in range(40):
            module = plotted(seed, names=1, flags=1, slots=2, funcs=4)
            rows = [set(views(module, depth=depth).looks) for depth in (0, 1, 2, 3, 4)] + [set(views(module).looks)]
            for less, more in zip(rows, rows[1:]):
                self.assertLessEqual(less, more)


class TimeTest(Viewing):
    def test_modules_of_the_size_that_the_document_speaks_of(self):
        for names, flags, slots in ((3, 0, 2), (2, 1, 2), (2, 0, 4)):
            for seed in range(8):
                module = plotted(seed, names=names, flags=flags, slots=slots, funcs=6)
                began = time.process_time()
                views(module)
                self.assertLess(time.process_time() - began, 30, seed)


if __name__ == "__main__":
    unittest.main()
