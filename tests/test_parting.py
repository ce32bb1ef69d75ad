"""Parting scripts and alike modules: points 27, 28 and 31, and what the edits promise of them."""

import time
import unittest

from bindspan.captures import Captures
from bindspan.edits import inlined, outlined, renamed, unwrapped, without
from bindspan.errors import NotComparable
from bindspan.modules import Module
from bindspan.parting import alike, parting
from bindspan.runs import run
from bindspan.scripts import check_script, count_moves, depth_of, walk
from bindspan.trees import words_in
from tests.callers import all_scripts
from tests.plots import near, plotted, statement_lines
from tests.runner import Caller
from tests.samples import M_TEXT, refused

M = Module.read(M_TEXT)

FIX_TEXT = """name x = none
own func show
  look seen x
end
own slot inner
own func step
  held inner
    run inner
  else
    keep inner show with x
  end
end
own slot outer
own func begin
  keep outer step with x
end
open func go
  bind x = one
    call begin
    bind x = two
      run outer
    end
  end
  bind x = three
    call begin
  end
  bind x = one
    run outer
  end
  drop inner
end"""


def read(text):
    return Module.read(text.replace(";", "\n"))


class Asking(unittest.TestCase):
    def check_told(self, first, second, script, depth=None):
        """A told script has the promised form, and really parts the modules."""
        self.assertIsNone(check_script(first, script))
        self.assertNotEqual(run(first, script).events, run(second, script).events)
        if depth is not None:
            self.assertLessEqual(depth_of(script), depth)
        words = []
        self.assertIs(type(script), tuple)
        for _, move in walk(script):
            self.assertIs(type(move[3]), tuple)
            for reaction in move[3]:
                self.assertEqual((type(reaction), type(reaction[0])), (tuple, tuple))
            self.assertEqual(sorted(move[2]), sorted(first.bound))
            words += [move[2][name] for name in first.idents("name")]
        self.assertEqual(len(set(words)), len(words))
        self.assertFalse(set(words) & set(words_in(first.parts) + words_in(second.parts)))
        return count_moves(script)

    def count(self, first, second, depth=None):
        """The count of a told script; None if the modules are alike."""
        script = parting(first, second, depth=depth)
        self.assertIs(alike(first, second, depth=depth), script is None)
        self.assertEqual(parting(second, first, depth=depth) is None, script is None)
        return None if script is None else self.check_told(first, second, script, depth)

    def smallest(self, first, second, most, depth=None):
        """The count of the smallest script that parts the modules, as far as it is at most this one."""
        for count in range(1, most + 1):
            for script, events in all_scripts(first, count, depth):
                if run(second, script).events != events:
                    return count
        return None


class ComparableTest(Asking):
    def test_what_differs(self):
        text = "name x = a;flag p = on;own slot s;open slot o;open func f;end;own func g;end;open func h;end"
        module = read(text)
        for other, what in (
            (text.replace("name x = a", "name x = b"), "names"), (text.replace("p = on", "p = off"), "names"),
            (text.replace("name x", "name y"), "names"), ("flag p = on;name x = a" + text[len("name x = a;flag p = on"):], "names"),
            (text + ";name y = a", "names"), (text.replace("flag p = on;", ""), "names"), (text.replace("name x = a", "flag x = on"), "names"),
            (text.replace("open func f", "own func f"), "functions"), (text.replace("open func f", "open func k"), "functions"),
            (text.replace("own func g", "open func g"), "functions"), (text + ";open func k;end", "functions"),
            (text.replace("open slot o", "own slot o"), "slots"), (text.replace("own slot s", "open slot s"), "slots"),
            (text.replace("open slot o", "open slot k"), "slots"), (text.replace("open slot o", "own slot o").replace("open func f", "own func f"), "functions"),
            (text.replace("open slot o", "own slot o").replace("x = a", "x = b"), "names"), ("", "names"),
            (text.replace("open slot o", "open func o;end").replace("open func h;end", "open slot h"), "functions"),
        ):
            for ask in (parting, alike):
                self.assertEqual(refused(ask, module, read(other)), (NotComparable, what), other)
                self.assertEqual(refused(ask, read(other), module), (NotComparable, what), other)

    def test_what_may_differ(self):
        first = read("name x = a;own slot s;open func f;look t x;end;open slot o;open func g;end;own func k;end")
        second = read("open func g;end;open slot o;name x = a;own func more;call g;end;open func f;look t x;end;own slot extra")
        self.assertIsNone(parting(first, second))
        self.assertIs(alike(first, second), True)


class PartingTest(Asking):
    def test_the_examples_of_the_document(self):
        self.assertEqual([move[:2] for move in parting(M, M.bare())], [("call", "put"), ("run", "box")])
        self.assertIsNone(parting(M, M.with_captures(M.captures)))
        fix = Module.read(FIX_TEXT)
        for pairs, same in (((), True), ([(0, "x"), (1, "x")], True), ([(0, "x")], False), ([(1, "x")], False)):
            self.assertIs(alike(fix.with_captures(Captures(pairs)), fix.full()), same)

    def test_new_at_each_call(self):
        script = parting(M, M.bare())
        script[0][2]["x"] = "spoilt"
        self.assertNotEqual(parting(M, M.bare())[0][2]["x"], "spoilt")

    def test_words_count_and_not_where_they_come_from(self):
        first = read("name x = a;name y = a;open func f;look t x;end")
        self.assertEqual(self.count(first, read("name x = a;name y = a;open func f;look t y;end")), 1)
        self.assertIsNone(self.count(read("name x = a;open func f;apart;look t x;end;end"), read("name x = a;open func f;bind x = a;look t x;end;end")))
        self.assertEqual(self.count(read("name x = a;open func f;apart;look t x;end;end"), read("name x = a;open func f;bind x = b;look t x;end;end")), 1)
        self.assertEqual(self.count(read("name x = a;open func f;apart;look t x;end;end"), read("name x = a;open func f;look t x;end")), 1)

    def test_every_pair_of_words_is_told_apart(self):
        texts = [f"name x = a;open func f;bind x = {word};look t x;end;end" for word in ("a", "b", "c", "d", "e", "of", "w1", "w2")]
        modules = [read(text) for text in texts]
        for first in modules:
            for second in modules:
                self.assertEqual(self.count(first, second), None if first == second else 1)

    def test_the_smallest_script_of_all_is_told(self):
        # Two moves tell the words of the callers apart, one move the words of the binds.
        text = "name x = a;own slot s;open func f;take s with x;end;open func g;run s;end;open func h;bind x = WORD;look t x;end;end"
        first = read(text.replace("WORD", "b"))
        for word in "acdefg":
            second = read(text.replace("WORD", word).replace(" with x", ""))
            self.assertEqual([self.count(first, second, depth) for depth in (None, 0, 5)], [1, 1, 1])

    def test_new_words_are_those_of_neither_module(self):
        first = read("name w1 = w3;open func f;look t w1;bind w1 = w2;end;end")
        second = read("name w1 = w3;open func f;bind w1 = w4;look t w1;end;end")
        self.assertEqual(self.count(first, second), 1)

    def test_several_moves(self):
        # Only the third run of the counter slots shows something.
        text = (
            "name x = a;own func show;look t x;end;own slot a;own slot b;own slot c;open func go;held c;run c;else;held b;shift b c;"
            "else;held a;shift a b;else;keep a show with x;end;end;end;end"
        )
        self.assertEqual(self.count(read(text), read(text.replace("a show with x", "a show"))), 4)
        self.assertEqual(self.count(read(text), read(text.replace("run c", "drop c"))), 4)

    def test_only_nested_moves(self):
        # Only while its callback is run, o holds something.
        text = (
            "name x = a;own func none;end;own slot s;own slot o;open func ask;take s;keep o none;guard;run s;end;drop o;end;"
            "open func see;held o;look t x;end;end"
        )
        first, second = read(text), read(text.replace("keep o none", "drop o"))
        self.assertEqual((self.count(first, second), self.count(first, second, 0), self.count(first, second, 1)), (2, None, 2))

    def test_only_with_a_certain_depth(self):
        # Each level of moves inside callbacks fills one more slot, and the end of each empties all.
        text = (
            "name x = a;own func none;end;own slot s;own slot a;own slot b;own slot c;open func go;held c;look t x;else;held b;keep c none;"
            "else;held a;keep b none;else;keep a none;end;end;end;take s;guard;run s;end;drop a;drop b;drop c;end"
        )
        first, second = read(text), read(text.replace("look t x", "drop a"))
        for depth, count in ((None, 4), (0, None), (1, None), (2, None), (3, 4), (4, 4), (7, 4), (10 ** 30, 4)):
            self.assertEqual(self.count(first, second, depth), count, depth)

    def test_a_greater_depth_can_make_the_count_smaller(self):
        # Flat, the slot is filled by three moves; inside a callback, by one.
        text = (
            "name x = a;own func none;end;own slot s;own slot a;own slot b;own slot t;open func slow;held b;keep t none;else;held a;keep b none;"
            "else;keep a none;end;end;end;open func go;take s;keep b none;guard;run s;end;drop b;end;open func see;held t;look t x;end;end"
        )
        first, second = read(text), read(text.replace("look t x", "drop t"))
        self.assertEqual([self.count(first, second, depth) for depth in (None, 0, 1, 2, 5)], [3, 4, 3, 3, 3])

    def test_every_move_counts_one_at_every_level(self):
        steps = "held c;keep t none;else;held b;keep c none;else;held a;keep b none;else;keep a none;end;end;end;end"
        text = (
            "name x = a;own func none;end;own slot s;own slot a;own slot b;own slot c;own slot t;open func slow;STEPS;"
            "open func go;take s;FILL;guard;run s;end;DROP;end;open func see;held t;look t x;end;end"
        ).replace("STEPS", steps)
        # Moves inside of a callback can do the same, but one more move is needed for this.
        first = read(text.replace("FILL;", "").replace("DROP;", ""))
        self.assertEqual([self.count(first, read(str(first).replace("look t x", "drop t")), depth) for depth in (None, 0, 1)], [5, 5, 5])
        # Inside of the callback, two moves do what four do outside of it.
        first = read(text.replace("FILL", "keep b none").replace("DROP", "drop b"))
        self.assertEqual([self.count(first, read(str(first).replace("look t x", "drop t")), depth) for depth in (None, 0, 1)], [4, 5, 4])
        # The same where only the rows behind the callback show it.
        text = (
            "name x = a;own func none;end;own slot s;own slot b;own slot c;own slot t;open func slow;held c;keep t none;else;held b;keep c none;"
            "else;keep b none;end;end;end;open func go;take s;keep b none;guard;run s;end;drop b;held t;look t x;end;end"
        )
        first, second = read(text), read(text.replace("look t x", "drop t"))
        self.assertEqual([self.count(first, second, depth) for depth in (None, 0, 1)], [3, 4, 3])

    def test_raising_callbacks(self):
        text = "name x = a;own slot s;open func ask;take s;end;open func go;guard;run s;after;look t x;end;end"
        first, second = read(text), read(text.replace("look t x", "drop s"))
        self.assertEqual(self.count(first, second, 0), 2)
        self.assertIn("raise", [reaction[1] for _, move in walk(parting(first, second)) for reaction in move[3]])

    def test_endings_and_numbers_count(self):
        self.assertEqual(self.count(read("open func f;fail;end"), read("open func f;end")), 1)
        first = read("own slot s;own slot r;open func ask;take s;end;open func more;take r;end;open func go;run s;end")
        second = read("own slot s;own slot r;open func ask;take s;end;open func more;take r;take s;end;open func go;run s;end")
        self.assertEqual(self.count(first, second), 2)
        # Which callback runs is told by its number alone.
        first = read("own slot s;open func ask;held s;else;take s;end;end;open func go;run s;end")
        second = read("own slot s;open func ask;take s;end;open func go;run s;end")
        self.assertEqual(self.count(first, second), 3)

    def test_flags(self):
        text = "name x = a;flag p = off;flag q = off;open func f;when p;when q;look t x;end;end;end"
        self.assertEqual(self.count(read(text), read(text.replace("look t x", "bind x = b;end"))), 1)
        self.assertIsNone(self.count(read(text), read(text.replace("when p;when q", "when q;when p"))))
        text = "name x = a;flag p = off;own slot s;open func ask;take s with p;end;open func go;run s;end"
        self.assertEqual(self.count(read(text), read(text.replace(" with p", ""))), 2)

    def test_words_that_are_swapped(self):
        text = "name x = a;name y = b;own slot s;open func ask;bind x = of y;take s with x;end;end;open func go;run s;end"
        self.assertEqual(self.count(read(text), read(text.replace("x = of y", "x = of x"))), 2)
        self.assertIsNone(self.count(read(text), read(text.replace("bind x = of y;take s with x;end", "bind x = of y;bind y = c;take s with x;end;end"))))

    def test_no_targets(self):
        self.assertIsNone(self.count(read("name x = a;own func f;look t x;end"), read("name x = a;own func f;fail;end")))
        self.assertIsNone(self.count(read(""), read("own slot s")))


class SearchTest(Asking):
    """Told scripts against all scripts with few moves."""

    def compare(self, seeds, most, **sizes):
        counts = {}
        for seed in seeds:
            first = plotted(seed, **sizes)
            for second in near(first, seed):
                for depth in (None, 0, 1):
                    count = self.count(first, second, depth)
                    counts[count] = counts.get(count, 0) + 1
                    found = self.smallest(first, second, min(most, count or most), depth)
                    if found is not None:
                        self.assertEqual(count, found, (seed, depth))
        return counts

    def test_one_name(self):
        counts = self.compare(range(60), 3, names=1, flags=0, slots=2, funcs=3, size=4)
        self.assertTrue({None, 1, 2, 3} <= set(counts), counts)

    def test_names_and_flags(self):
        self.compare(range(20), 2, names=2, flags=1, slots=2, funcs=4)

    def test_three_slots(self):
        self.compare(range(30), 3, names=1, flags=0, slots=3, funcs=4)

    def test_random_callers_part_no_alike_modules(self):
        for seed in range(150):
            first = plotted(seed, names=2, flags=1, slots=2, funcs=4)
            for second in near(first, seed):
                if alike(first, second):
                    for number in range(10):
                        script = Caller(first, number).script(5, 3)
                        self.assertEqual(run(first, script).events, run(second, script).events, seed)


class EditsTest(Asking):
    def test_edits_that_keep_modules_alike(self):
        done = 0
        for seed in range(30):
            module = plotted(seed, names=2, flags=1, slots=2, funcs=4)
            others = [renamed(module, part[1], "newname") for part in module.parts if part[0] in ("slot", "func") and part[2] == "own"]
            for line in statement_lines(module):
                others.append(outlined(module, line, "newfunc"))
                if module.statement(line)[0] == "call":
                    others.append(inlined(module, line))
            for other in others:
                self.assertIs(alike(module, other), True, seed)
                done += 1
        self.assertGreater(done, 250)

    def test_edits_that_need_not(self):
        self.assertEqual(self.count(M, without(M, 9)), 2)
        self.assertEqual(self.count(M, unwrapped(M, 8)), 2)
        self.assertEqual(refused(alike, M, renamed(M, "box", "chest")), (NotComparable, "slots"))
        self.assertIs(alike(M, renamed(M, "show", "tell")), True)


class TimeTest(Asking):
    """Modules of the size that the document speaks of answer within a reasonable time."""

    def ask(self, module, seconds):
        began = time.process_time()
        line = statement_lines(module)[-1]
        self.assertIs(alike(module, outlined(module, line, "newfunc")), True)
        for other in (module.bare(), module.full()):
            self.count(module, other)
        self.assertLess(time.process_time() - began, seconds)

    def test_six_functions_three_bound_names_two_slots(self):
        for names, flags in ((3, 0), (2, 1), (1, 2)):
            for seed in range(6):
                self.ask(plotted(seed, names=names, flags=flags, slots=2, funcs=6, size=4), 20)

    def test_four_slots(self):
        text = (
            "name x = a;name y = b;own func show;look t x;look u y;end;own slot s;own slot t;open slot u;own slot v;open func ask;take s with x;end;"
            "open func more;take t with y;end;open func move;shift s t with y;shift t u;end;open func put;keep v show with x;end;"
            "open func go;bind x = c;guard;run s;run t;after;run v;end;end;end;open func back;shift u v;run v;end"
        )
        self.ask(read(text), 30)


if __name__ == "__main__":
    unittest.main()
