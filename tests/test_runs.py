"""Runs, general runs and filling: points 15 to 18, 21, 22 and 24 to 26."""

import random
import unittest

from bindspan.modules import Module
from bindspan.runs import fill, general, run
from bindspan.scripts import count_moves
from tests.callers import all_scripts
from tests.plots import plotted
from tests.runner import Caller, Runner, events_of
from tests.samples import FULL_TEXT, M_TEXT, Maker
from tests.test_sessions import carried_out

M = Module.read(M_TEXT)
SIZES = (
    {"names": 1, "flags": 0, "slots": 2, "funcs": 3}, {"names": 2, "flags": 1, "slots": 3, "funcs": 4},
    {"names": 1, "flags": 1, "slots": 1, "funcs": 5, "deep": 3}, {"names": 3, "flags": 0, "slots": 2, "funcs": 6},
)


def call(target, bindings=None, *reactions):
    return ("call", target, bindings or {}, reactions)


def start(target, bindings=None, *reactions):
    return ("run", target, bindings or {}, reactions)


def events(lines, *script):
    """The events of a run; lines are those of a text without spaces at the beginning, separated by semicolons."""
    return list(run(Module.read(lines.replace(";", "\n")), script).events)


def ended(number, ending="return"):
    return ("end", number, ending)


class StatementsTest(unittest.TestCase):
    def test_look(self):
        text = "name x = a;name y = b;flag p = on;open func f;look t x;look u y;look t y;end"
        self.assertEqual(
            events(text, call("f"), call("f", {"y": "c"})),
            [("look", "t", "a"), ("look", "u", "b"), ("look", "t", "b"), ended(0),
             ("look", "t", "a"), ("look", "u", "c"), ("look", "t", "c"), ended(1)],
        )

    def test_bind_of_words_and_of_other_names(self):
        text = (
            "name x = a;name y = b;open func f;bind x = c;look t x;bind y = of x;bind x = of y;look t x;bind y = d;"
            "look t x;look t y;end;look t y;end;end;look t y;end;look t x;end"
        )
        words = ["c", "c", "c", "d", "c", "b", "a"]
        self.assertEqual(events(text, call("f")), [*[("look", "t", word) for word in words], ended(0)])

    def test_bind_and_when_of_flags(self):
        text = (
            "name x = a;flag p = off;flag q = on;open func f;when p;look p x;else;look np x;end;bind p = of q;when p;look p x;end;"
            "bind q = off;when q;look q x;else;look nq x;end;when p;look p x;end;end;end;when q;else;look nq x;end;when p;look p x;end;end"
        )
        self.assertEqual([event[1] for event in events(text, call("f"))[:-1]], ["np", "p", "nq", "p"])
        self.assertEqual([event[1] for event in events(text, call("f", {"p": "on", "q": "off"}))[:-1]], ["p", "nq", "nq", "p"])

    def test_call_in_the_environment_of_the_row(self):
        text = "name x = a;own func g;look t x;end;open func f;bind x = b;call g;end;call g;end"
        self.assertEqual(events(text, call("f")), [("look", "t", "b"), ("look", "t", "a"), ended(0)])

    def test_keep_and_run(self):
        text = (
            "name x = a;name y = b;own func g;look t x;look t y;end;open slot s;open func f;bind x = c;bind y = d;"
            "keep s g with x;end;end;end;open func h;bind x = e;bind y = i;run s;run s;end;end;look t x;end"
        )
        seen = [("look", "t", "c"), ("look", "t", "i")]
        self.assertEqual(
            events(text, start("s"), call("f"), call("h"), start("s", {"x": "k", "y": "l"})),
            [ended(0), ended(1), *seen, *seen, ("look", "t", "a"), ended(2), ("look", "t", "c"), ("look", "t", "l"), ended(3)],
        )

    def test_what_a_slot_held_before_is_lost(self):
        text = (
            "name x = a;own func g;look g x;end;own func h;look h x;end;open slot s;open func f;keep s g with x;keep s h;end;"
            "open func k;take s with x;keep s g;end;open func l;take s with x;end"
        )
        self.assertEqual(events(text, call("f"), start("s", {"x": "b"}))[1], ("look", "h", "b"))
        self.assertEqual(events(text, call("k", {"x": "c"}), start("s", {"x": "b"}))[1], ("look", "g", "b"))
        self.assertEqual(events(text, call("f"), call("l", {"x": "c"}), start("s", {"x": "b"}))[2], ("ran", 1, ("c",)))

    def test_flags_are_captured(self):
        text = (
            "name x = a;flag p = off;own func g;when p;look on x;else;look off x;end;end;open slot s;open func f;keep s g with p;end"
        )
        self.assertEqual(events(text, call("f", {"p": "on"}), start("s"))[1], ("look", "on", "a"))
        self.assertEqual(events(text, call("f"), start("s", {"p": "on"}))[1], ("look", "off", "a"))
        self.assertEqual(events(text.replace(" with p", ""), call("f"), start("s", {"p": "on"}))[1], ("look", "on", "a"))

    def test_take_hands_on_the_callback_of_the_present_move(self):
        # g was kept in move 0; it runs in move 1, and takes the callback of move 1.
        text = "name x = a;own slot t;own func g;take t with x;end;open slot s;open func f;keep s g;end;open func h;run t;end"
        self.assertEqual(
            events(text, call("f"), start("s", {"x": "b"}), call("h", {"x": "c"})), [ended(0), ended(1), ("ran", 1, ("b",)), ended(2)]
        )

    def test_shift(self):
        text = (
            "name x = a;name y = b;own slot s;open slot t;open func f;take s with x;end;open func g;shift s t with x y;end;"
            "open func h;held s;look full x;else;look none x;end;held t;look full x;else;look none x;end;end"
        )
        found = events(
            text, call("g"), call("h"), call("f", {"x": "c", "y": "d"}), call("h"), call("g", {"x": "e", "y": "i"}), call("h"),
            start("t", {"x": "k", "y": "l"}), call("f"), call("g"), start("t"),
        )
        looks = [event[1] for event in found if event[0] == "look"]
        self.assertEqual(looks, ["none", "none", "full", "none", "none", "full"])
        # The word of x stays as it was captured first; y is captured by the shift.
        self.assertEqual([event for event in found if event[0] == "ran"], [("ran", 2, ("c", "i")), ("ran", 7, ("a", "b"))])

    def test_a_shift_of_an_empty_slot_does_nothing(self):
        text = "name x = a;own slot s;open slot t;open func f;take t;end;open func g;shift s t with x;end"
        self.assertEqual(events(text, call("f"), call("g", {"x": "b"}), start("t"))[2], ("ran", 0, ("a",)))

    def test_drop_and_held(self):
        text = "name x = a;open slot s;open func f;held s;drop s;held s;fail;else;look out x;end;else;take s;look in x;end;end"
        self.assertEqual([event[1] for event in events(text, call("f"), call("f"), call("f")) if event[0] == "look"], ["in", "out", "in"])

    def test_apart(self):
        text = "name x = a;flag p = off;open func f;apart;look t x;when p;look on x;end;bind x = c;look t x;end;end;look t x;end"
        self.assertEqual(
            events(text, call("f", {"x": "b", "p": "on"})), [("look", "t", "a"), ("look", "t", "c"), ("look", "t", "b"), ended(0)]
        )

    def test_a_slot_that_changes_while_it_runs(self):
        text = (
            "name x = a;own slot s;own func g;look g x;drop s;held s;look held x;else;look free x;end;end;own slot u;open func f;"
            "keep u g;shift s u;run u;end"
        )
        self.assertEqual(events(text, call("f"))[:2], [("look", "g", "a"), ("look", "free", "a")])
        # A callback that replaces itself: what runs goes on, and the new one runs the next time.
        text = (
            "name x = a;own func h;look h x;end;own slot z;open slot s;own func g;run s;end;open func f;take s;run s;run s;end;"
            "open func k;keep s h;end"
        )
        self.assertEqual(
            events(text, call("f", {}, ((call("k"),), "return"))), [("ran", 0, ("a",)), ended(1), ("look", "h", "a"), ended(0)]
        )

    def test_every_statement_at_once(self):
        module = Module.read(FULL_TEXT)
        script = [call("put", {"x": "a", "lit": "off"}), start("box", {"y": "b"}), call("none")]
        self.assertEqual(run(module, script).events, tuple(events_of(module.parts, script)))


class FailuresTest(unittest.TestCase):
    def test_a_failure_ends_the_move(self):
        text = "name x = a;own func g;look g x;fail;look no x;end;open func f;bind x = b;call g;look no x;end;look no x;end"
        self.assertEqual(events(text, call("f"), call("f")), [("look", "g", "b"), ended(0, "raise"), ("look", "g", "b"), ended(1, "raise")])

    def test_guards(self):
        text = "name x = a;open func f;bind x = b;guard;bind x = c;fail;look no x;end;look no x;after;look t x;end;look u x;end;look v x;end"
        self.assertEqual(events(text, call("f")), [("look", "t", "b"), ("look", "u", "b"), ("look", "v", "a"), ended(0)])
        text = "name x = a;open func f;guard;look t x;after;look no x;end;guard;fail;end;look u x;end"
        self.assertEqual(events(text, call("f")), [("look", "t", "a"), ("look", "u", "a"), ended(0)])

    def test_a_failure_in_second_rows_goes_on_outward(self):
        text = "name x = a;open func f;guard;guard;fail;after;look t x;fail;look no x;end;look no x;after;look u x;fail;end;look no x;end"
        self.assertEqual(events(text, call("f")), [("look", "t", "a"), ("look", "u", "a"), ended(0, "raise")])

    def test_a_guard_that_is_over_catches_nothing(self):
        text = "name x = a;open func f;guard;look t x;after;look no x;end;fail;end"
        self.assertEqual(events(text, call("f")), [("look", "t", "a"), ended(0, "raise")])

    def test_slots_stay_changed(self):
        text = (
            "name x = a;own slot a;open slot s;open slot u;open func f;take a with x;shift a s;take u;drop u;fail;end;"
            "open func g;guard;call f;after;held s;look s x;end;held u;look u x;end;end;end"
        )
        self.assertEqual(events(text, call("g"), start("s", {"x": "b"})), [("look", "s", "a"), ended(0), ("ran", 0, ("a",)), ended(1)])
        self.assertEqual(events(text, call("f"), start("s", {"x": "b"})), [ended(0, "raise"), ("ran", 0, ("a",)), ended(1)])

    def test_failures_through_functions_and_callbacks_in_slots(self):
        text = (
            "name x = a;own func bad;fail;end;open slot s;open func put;keep s bad;end;open func ask;take s;end;"
            "open func f;guard;run s;look no x;after;look t x;end;end;open func g;run s;look no x;end"
        )
        self.assertEqual(events(text, call("put"), call("f"), call("g"), start("s"))[1:], [("look", "t", "a"), ended(1), ended(2, "raise"), ended(3, "raise")])
        caller = ((), "raise")
        self.assertEqual(
            events(text, call("ask"), call("f", {}, caller), call("g", {}, caller), start("s", {}, caller))[1:],
            [("ran", 0, ("a",)), ("look", "t", "a"), ended(1), ("ran", 0, ("a",)), ended(2, "raise"), ("ran", 0, ("a",)), ended(3, "raise")],
        )


class CallersTest(unittest.TestCase):
    ASK = "name x = a;flag p = off;own slot s;open slot o;open func ask;take s with x;take o;end;open func go;bind x = b;run s;run s;end;end;open func see;look t x;end"

    def test_settings(self):
        module = Module.read(self.ASK.replace(";", "\n"))
        inner = call("go", {"p": "on"}, ((call("see", {"p": "off"}),), "raise"))
        script = [call("ask", {"x": "c"}), call("go", {}, ((call("see"), call("see", {"x": "d"})), "return"), ((inner,), "return")), call("see")]
        found = run(module, script)
        self.assertEqual(
            [tuple(setting.values()) for setting in found.settings],
            # The callback of move 0 sees c, which it captured, and the moves in it have that around them.
            [("c", "off"), ("a", "off"), ("c", "off"), ("d", "off"), ("c", "on"), ("c", "off"), ("a", "off")],
        )
        self.assertEqual([list(setting) for setting in found.settings], [["x", "p"]] * 7)
        self.assertEqual(found.events, tuple(events_of(module.parts, script)))

    def test_numbers_and_the_order_of_events(self):
        seen = ("ran", 0, ("a", "off"))
        self.assertEqual(
            events(self.ASK, call("ask"), call("go", {}, ((call("see"), call("see")), "return"), ((call("see"),), "return")), call("see")),
            [ended(0), seen, ("look", "t", "a"), ended(2), ("look", "t", "a"), ended(3), seen, ("look", "t", "a"), ended(4), ended(1),
             ("look", "t", "a"), ended(5)],
        )

    def test_fewer_and_more_reactions_than_runs(self):
        seen = ("ran", 0, ("a", "off"))
        self.assertEqual(events(self.ASK, call("ask"), call("go")), [ended(0), seen, seen, ended(1)])
        self.assertEqual(
            events(self.ASK, call("ask"), call("go", {}, ((), "return"), ((), "return"), ((call("see"),), "raise"))), [ended(0), seen, seen, ended(1)]
        )
        self.assertEqual(events(self.ASK, call("ask"), call("go", {}, ((), "raise"), ((call("see"),), "return"))), [ended(0), seen, ended(1, "raise")])
        # The reaction that was not used is not used by the next move either.
        self.assertEqual(events(self.ASK, call("ask", {}, ((), "raise")), call("go"))[-1], ended(1))

    def test_inner_moves_take_their_own_reactions(self):
        seen = ("ran", 0, ("a", "off"))
        inner = call("go", {}, ((), "raise"))
        self.assertEqual(
            events(self.ASK, call("ask"), call("go", {}, ((inner, inner), "return"), ((), "raise"))),
            [ended(0), seen, seen, ended(2, "raise"), seen, ended(3, "raise"), seen, ended(1, "raise")],
        )

    def test_a_failed_inner_move_is_no_failure_of_the_callback(self):
        text = "name x = a;own slot s;open func ask;take s;run s;end;open func bad;fail;end"
        self.assertEqual(
            events(text, call("ask", {}, ((call("bad"), call("bad")), "return"))),
            [("ran", 0, ("a",)), ended(1, "raise"), ended(2, "raise"), ended(0)],
        )

    def test_a_failure_ends_only_its_own_move(self):
        text = "name x = a;own slot s;open func ask;take s;guard;run s;after;look no x;end;look t x;end;open func bad;fail;end"
        self.assertEqual(
            events(text, call("ask", {}, ((call("bad"),), "return"))), [("ran", 0, ("a",)), ended(1, "raise"), ("look", "t", "a"), ended(0)]
        )

    def test_callbacks_that_a_later_move_runs(self):
        seen = ("ran", 0, ("c", "on"))
        self.assertEqual(
            events(self.ASK, call("ask", {"x": "c"}), call("go", {"p": "on"}, ((call("ask", {"x": "d"}),), "return"))),
            [ended(0), seen, ended(2), ("ran", 2, ("d", "on")), ended(1)],
        )

    def test_a_move_that_runs_a_callback_itself(self):
        self.assertEqual(
            events(self.ASK, call("ask"), start("o", {"x": "e"}, ((start("o", {"p": "on"}, ((), "raise")),), "raise"))),
            [ended(0), ("ran", 0, ("e", "off")), ("ran", 0, ("e", "on")), ended(2, "raise"), ended(1, "raise")],
        )

    def test_the_example_of_the_document(self):
        text = "name u = nobody;own slot s;open func ask;take s;end;open func go;bind u = system;run s;end;end"
        self.assertEqual(
            events(text, call("ask", {"u": "ann"}), call("go", {}, ((call("ask"),), "raise"))),
            [ended(0), ("ran", 0, ("system",)), ended(2), ended(1, "raise")],
        )

    def test_nested_reactions_to_many_levels(self):
        text = "name x = a;open slot s;open func ask;take s with x;end;open func go;run s;look t x;end"
        script = [call("go", {"x": "w6"})]
        for level in range(5, -1, -1):
            script = [call("ask", {"x": f"k{level}"}), call("go", {"x": f"w{level}"}, (script, ("raise", "return")[level % 2]))]
        found = events(text, *script)
        module = Module.read(text.replace(";", "\n"))
        self.assertEqual(found, events_of(module.parts, script))
        self.assertEqual([event[2][0] for event in found if event[0] == "ran"], ["k0", "k1", "k2", "k3", "k4", "k5", "k5"])
        self.assertEqual(len(found), count_moves(script) + 7 + 4)


class RunTest(unittest.TestCase):
    SCRIPT = [("call", "put", {}, ()), ("run", "box", {"x": "green"}, ())]

    def test_the_examples_of_the_document(self):
        found = (run(M, self.SCRIPT).words("seen"), run(M.bare(), self.SCRIPT).words("seen"), general(M.bare(), self.SCRIPT).words("seen"))
        self.assertEqual(found, (("blue",), ("green",), ((1, "x"),)))

    def test_fields_and_methods(self):
        found = run(M, self.SCRIPT)
        events = (ended(0), ("look", "seen", "blue"), ended(1))
        self.assertEqual((found.events, tuple(found), len(found), [found[at] for at in range(3)]), (events, events, 3, list(events)))
        self.assertEqual(found.settings, ({"x": "red", "lit": "off"}, {"x": "green", "lit": "off"}))
        self.assertEqual(found.contents, {"box": (("func", "show"), {"x": "blue"})})
        self.assertEqual((found.words("seen"), found.words("box"), found.ending(0), found.ending(1)), (("blue",), (), "return", "return"))
        empty = run(M, ())
        self.assertEqual((empty.events, empty.settings, empty.contents, len(empty)), ((), (), {"box": None}, 0))

    def test_endings(self):
        module = Module.read("open func f\nfail\nend\nopen func g\nend")
        found = run(module, [call("f"), call("g"), call("f")])
        self.assertEqual([found.ending(number) for number in range(3)], ["raise", "return", "raise"])

    def test_each_run_begins_anew(self):
        self.assertEqual(run(M, self.SCRIPT).events, run(M, self.SCRIPT).events)
        self.assertEqual(run(M, [("run", "box", {}, ())]).events, (ended(0),))

    def test_later_changes_have_no_effect(self):
        bindings = {"x": "green"}
        script = [("run", "box", bindings, [])]
        found = run(M, script)
        bindings["x"] = "other"
        script.clear()
        self.assertEqual(found.settings, ({"x": "green", "lit": "off"},))

    def test_random_modules_and_scripts(self):
        for seed in range(400):
            for module in (Module(Maker(seed).parts), plotted(seed, **SIZES[seed % 4])):
                script = Caller(module, seed).script(4, 3)
                found = run(module, script)
                self.assertEqual(found.events, tuple(events_of(module.parts, script)), seed)
                self.assertEqual(found.contents, {slot: carried_out(module, script)[0].content(slot) for slot in module.idents("slot")})


class Noted(Runner):
    """A run that notes the present move at each look and each run of a caller's callback."""

    def __init__(self, parts, script):
        self.present = {}
        super().__init__(parts, script)

    def do_look(self, env, present, tag, name):
        self.present[len(self.events)] = present[0]
        super().do_look(env, present, tag, name)

    def do_run(self, env, present, slot):
        self.present[len(self.events)] = present[0]
        super().do_run(env, present, slot)


class GeneralTest(unittest.TestCase):
    def both(self, module, script):
        """The run and the general run, after what is promised of every pair of them was compared."""
        plain, marked = run(module, script), general(module, script)
        self.assertEqual(fill(marked.events, plain.settings), plain.events)
        self.assertEqual(fill(list(marked.events), list(plain.settings)), plain.events)
        names = module.idents("name")
        for number, (setting, marks) in enumerate(zip(plain.settings, marked.settings)):
            for ident in module.bound:
                self.assertEqual(marks[ident], (number, ident) if ident in names else setting[ident])
        return plain, marked

    def random_pairs(self):
        for seed in range(300):
            module = plotted(seed, **SIZES[seed % 4])
            yield seed, module, Caller(module, seed).script(5, 3)

    def test_the_run_is_the_general_run_filled_in(self):
        for _, module, script in self.random_pairs():
            self.both(module, script)
        for seed in range(100):
            module = Module(Maker(seed).parts)
            self.both(module, Caller(module, seed).script(4, 2))
        for script, _ in all_scripts(plotted(3), 3):
            self.both(plotted(3), script)

    def test_marks_do_not_depend_on_the_bindings_of_names(self):
        for seed, module, script in self.random_pairs():
            dice = random.Random(seed)
            names = module.idents("name")

            def other(script):
                return [
                    (kind, target, {**{key: word for key, word in bindings.items() if key not in names},
                                    **{name: dice.choice("abc") for name in names if dice.randrange(2)}},
                     [(other(inner), ending) for inner, ending in reactions])
                    for kind, target, bindings, reactions in script
                ]

            self.assertEqual(general(module, script).events, general(module, other(script)).events)

    def test_full_and_bare_modules(self):
        marks = {"full": 0, "bare": 0}
        for seed, module, script in self.random_pairs():
            _, marked = self.both(module.full(), script)
            _, kinds = carried_out(module.full(), script)
            for event in marked.events:
                for mark in self.marks(event):
                    marks["full"] += 1
                    self.assertEqual(kinds[mark[0]], "call", seed)
            _, marked = self.both(module.bare(), script)
            present = Noted(module.bare().parts, script).present
            for at, event in enumerate(marked.events):
                for mark in self.marks(event):
                    marks["bare"] += 1
                    self.assertEqual(mark[0], present[at], seed)
        self.assertGreater(min(marks.values()), 100)

    def marks(self, event):
        words = event[2] if event[0] == "ran" else [event[2]]
        return [word for word in words if isinstance(word, tuple)]

    def test_fill_of_events_without_marks(self):
        events = (("look", "t", "a"), ("ran", 3, ("b", (1, "x"), "on")), ended(0), ended(1, "raise"), ("look", "t", (0, "x")))
        self.assertEqual(
            fill(events, [{"x": "u"}, {"x": "v"}]),
            (("look", "t", "a"), ("ran", 3, ("b", "v", "on")), ended(0), ended(1, "raise"), ("look", "t", "u")),
        )
        self.assertEqual(fill([], ()), ())

    def test_arguments_are_not_changed(self):
        events, settings = [("look", "t", (0, "x"))], [{"x": "u"}]
        fill(events, settings)
        self.assertEqual((events, settings), ([("look", "t", (0, "x"))], [{"x": "u"}]))


if __name__ == "__main__":
    unittest.main()
