"""Sessions with live callers: points 15 to 18, 21 and 22, and the interface of Session."""

import unittest

from bindspan.errors import BadBinding, Failed, MoveFailed, NoTarget
from bindspan.modules import Module
from bindspan.runs import run
from bindspan.sessions import Session
from tests.plots import plotted
from tests.runner import Caller
from tests.samples import M_TEXT, WRONG, Maker, refused

M = Module.read(M_TEXT)
ASK = Module.read(
    "name x = a\nflag p = off\nown slot s\nopen slot o\nopen func ask\ntake s with x\ntake o\nend\nopen func go\nbind x = b\n"
    "run s\nrun s\nend\nend\nopen func see\nlook t x\nend\nopen func bad\nfail\nend\nopen func safe\nguard\nrun s\nafter\nlook u x\n"
    "end\nend\nopen func put\ntake s with p\nrun s\nend"
)


def carried_out(module, script):
    """A session in which live callers do what the script says, and the kinds of the moves by their numbers."""
    session, kinds, running = Session(module), [], []

    def given(_):
        reactions = running[-1]
        inner, ending = reactions.pop(0) if reactions else ((), "return")
        moves(inner)
        if ending == "raise":
            raise Failed()

    def moves(script):
        for kind, target, bindings, reactions in script:
            kinds.append(kind)
            running.append(list(reactions))
            try:
                getattr(session, kind)(target, bindings, given=given)
            except MoveFailed:
                pass
            running.pop()

    moves(script)
    return session, kinds


def raising(_):
    raise Failed()


class SessionTest(unittest.TestCase):
    def test_the_examples_of_the_document(self):
        session = Session(M)
        self.assertEqual((session.call("put"), session.run("box", {"x": "green"})), (0, 1))
        self.assertEqual(session.trace, [("end", 0, "return"), ("look", "seen", "blue"), ("end", 1, "return")])
        self.assertEqual(session.content("box"), (("func", "show"), {"x": "blue"}))
        self.assertEqual(refused(Session(M).call, "put", {"lit": "on", "x": "No"}), (BadBinding, "x"))

    def test_sessions_do_what_runs_do(self):
        for seed in range(300):
            for module in (Module(Maker(seed).parts), plotted(seed, names=2, flags=1, slots=2, funcs=4)):
                script = Caller(module, seed).script(4, 3)
                session, _ = carried_out(module, script)
                found = run(module, script)
                self.assertEqual(tuple(session.trace), found.events, seed)
                self.assertEqual(session.depth, 0)
                for number, setting in enumerate(found.settings):
                    self.assertEqual(session.setting(number), setting)
                    self.assertEqual(list(session.setting(number)), list(module.bound))

    def test_a_callback_sees_what_it_is_run_with(self):
        session, seen = Session(ASK), []

        def given(words):
            seen.append((words, session.trace[-1], session.depth))
            words["x"] = "spoilt"

        session.call("ask", {"x": "c"}, given=given)
        session.call("go", {"p": "on"})
        expected = ({"x": "spoilt", "p": "on"}, ("ran", 0, ("c", "on")), 1)
        self.assertEqual(seen, [expected, expected])
        self.assertIsNot(seen[0][0], seen[1][0])
        self.assertEqual(list(seen[0][0]), ["x", "p"])
        self.assertEqual(session.content("s"), (("caller", 0), {"x": "c"}))

    def test_moves_inside_a_callback(self):
        session, numbers = Session(ASK), []

        def given(words):
            numbers.append((session.call("see"), session.call("see", {"x": "e"}), session.depth))
            self.assertEqual(session.setting(numbers[-1][0]), words)

        session.call("ask", {"x": "c"}, given=given)
        self.assertEqual(session.call("go", {"p": "on"}), 1)
        self.assertEqual(numbers, [(2, 3, 1), (4, 5, 1)])
        self.assertEqual(session.setting(3), {"x": "e", "p": "on"})
        # Behind the callback, the default environment is around moves again.
        self.assertEqual(session.setting(session.call("see")), {"x": "a", "p": "off"})
        self.assertEqual(session.trace[-2:], [("look", "t", "a"), ("end", 6, "return")])

    def test_the_environment_around_is_that_of_the_innermost_callback(self):
        session, words = Session(ASK), []

        def inner(_):
            words.append(session.setting(session.call("see"))["x"])

        def outer(_):
            words.append(session.setting(session.call("see"))["x"])
            session.call("ask", {"x": "in"}, given=inner)
            session.run("o", {"x": "now"})
            words.append(session.setting(session.call("see"))["x"])

        session.call("ask", {"x": "out"}, given=outer)
        session.call("go")
        self.assertEqual(words, ["out", "now", "out", "in"])

    def test_depth(self):
        session, depths = Session(ASK), []

        def given(_):
            depths.append(session.depth)
            if session.depth < 4:
                session.run("o")
            depths.append(session.depth)

        session.call("ask", given=given)
        self.assertEqual(session.depth, 0)
        session.run("o")
        self.assertEqual((depths, session.depth), ([1, 2, 3, 4, 4, 3, 2, 1], 0))

    def test_what_is_returned_is_new_each_time(self):
        session = Session(M)
        bindings = {"x": "green"}
        session.call("put")
        session.run("box", bindings)
        bindings["x"] = "spoilt"
        session.trace.append("more")
        session.setting(1)["x"] = "spoilt"
        session.content("box")[1]["x"] = "spoilt"
        self.assertEqual(session.trace, [("end", 0, "return"), ("look", "seen", "blue"), ("end", 1, "return")])
        self.assertEqual(session.setting(1), {"x": "green", "lit": "off"})
        self.assertEqual(session.content("box"), (("func", "show"), {"x": "blue"}))

    def test_contents(self):
        session = Session(ASK)
        self.assertIsNone(session.content("s"))
        session.call("ask", {"x": "c"})
        self.assertEqual((session.content("s"), session.content("o")), ((("caller", 0), {"x": "c"}), (("caller", 0), {})))
        session.call("put", {"p": "on"})
        self.assertEqual(session.content("s"), (("caller", 1), {"p": "on"}))
        full = Session(ASK.full())
        full.call("ask")
        self.assertEqual(list(full.content("s")[1].items()), [("x", "a"), ("p", "off")])
        for value in ("ask", "x", "nothing", "", *WRONG):
            with self.assertRaises(NoTarget) as caught:
                session.content(value)
            self.assertIs(caught.exception.target, value)

    def test_two_sessions_side_by_side(self):
        first, second = Session(ASK), Session(ASK)

        def given(_):
            second.call("see")
            second.call("ask", {"x": "q"})

        first.call("ask", {"x": "c"}, given=given)
        first.call("go", {"p": "on"})
        self.assertEqual(len(first.trace), 4)
        # The moves of the other session have the default environment around them: none of its callbacks runs.
        self.assertEqual([event for event in second.trace if event[0] == "look"], [("look", "t", "a")] * 2)
        self.assertEqual((first.content("s"), second.content("s")), ((("caller", 0), {"x": "c"}), (("caller", 3), {"x": "q"})))


class ErrorsTest(unittest.TestCase):
    def test_targets(self):
        session = Session(ASK)
        for target in ("s", "o", "x", "nothing", "", "Ask", "ask "):
            self.assertEqual(refused(session.call, target, {"x": "NO", "q": "a"}), (NoTarget, target))
        for target in ("s", "ask", "x", "nothing", ""):
            self.assertEqual(refused(session.run, target, {"q": "a"}), (NoTarget, target))
        self.assertEqual((session.trace, session.depth, session.call("see")), ([], 0, 0))

    def test_bindings(self):
        session = Session(ASK)
        for bindings, key in (
            ({"q": "a"}, "q"), ({"ask": "a"}, "ask"), ({"s": "a"}, "s"), ({"": "a"}, ""), ({"x": "NO"}, "x"), ({"x": "a", "q": "b"}, "q"),
            ({"p": "no", "x": None}, "p"), ({"x": None, "p": "no"}, "x"), ({"q": "a", "x": "NO"}, "q"), ({"x": ""}, "x"), ({"x": "a" * 13}, "x"),
            ({"p": "On"}, "p"), ({"p": ("on",)}, "p"), ({"p": True}, "p"),
        ):
            for act, target in ((session.call, "see"), (session.run, "o")):
                self.assertEqual(refused(act, target, bindings), (BadBinding, key), bindings)
        for value in WRONG:
            self.assertEqual(refused(session.call, "see", {"p": value}), (BadBinding, "p"))
            if not isinstance(value, str):
                self.assertEqual(refused(session.call, "see", {"x": "on", "p": "on", "y": value}), (BadBinding, "y"))
        self.assertEqual((session.trace, session.depth), ([], 0))
        self.assertEqual(session.call("see", {"x": "on", "p": "on"}), 0)

    def test_errors_inside_a_callback_begin_no_move(self):
        session, found = Session(ASK), []

        def given(_):
            found.append((refused(session.call, "no"), refused(session.call, "see", {"x": 1}), session.depth))

        session.call("ask", given=given)
        session.run("o")
        self.assertEqual(found, [((NoTarget, "no"), (BadBinding, "x"), 1)])
        self.assertEqual(session.call("see"), 2)

    def test_a_statement_fail(self):
        session = Session(ASK)
        self.assertEqual(refused(session.call, "bad"), (MoveFailed, 0, None))
        self.assertEqual((session.trace, session.depth, session.call("see")), ([("end", 0, "raise")], 0, 1))

    def test_a_callback_that_raises(self):
        session = Session(ASK)
        session.call("see")
        session.call("ask", given=raising)
        self.assertEqual(refused(session.call, "go"), (MoveFailed, 2, 1))
        self.assertEqual(refused(session.run, "o"), (MoveFailed, 3, 1))
        self.assertEqual(session.trace[-4:], [("ran", 1, ("a", "off")), ("end", 2, "raise"), ("ran", 1, ("a", "off")), ("end", 3, "raise")])
        # A guard ends the failure.
        self.assertEqual(session.call("safe"), 4)
        self.assertEqual(session.trace[-2:], [("look", "u", "a"), ("end", 4, "return")])

    def test_errors_that_derive_from_failed(self):
        class Worse(Failed):
            pass

        def given(_):
            raise Worse()

        session = Session(ASK)
        session.call("ask", given=given)
        self.assertEqual(refused(session.run, "o"), (MoveFailed, 1, 0))

    def test_an_inner_move_that_fails(self):
        session = Session(ASK)
        found = []

        def careless(_):
            session.call("bad")

        def careful(_):
            found.append(refused(session.call, "bad"))

        session.call("ask", given=careful)
        self.assertEqual(session.run("o"), 1)
        self.assertEqual(found, [(MoveFailed, 2, None)])
        # Here MoveFailed leaves the callback, which so raises itself.
        session.call("ask", given=careless)
        self.assertEqual(refused(session.run, "o"), (MoveFailed, 4, 3))
        self.assertEqual(session.trace[-2:], [("end", 5, "raise"), ("end", 4, "raise")])
        self.assertEqual(session.setting(session.call("see")), {"x": "a", "p": "off"})

    def test_by_tells_what_made_the_move_fail_at_last(self):
        text = (
            "open slot s\nopen slot o\nopen func ask\ntake s\ntake o\nend\nopen func f\nguard\nrun s\nafter\nfail\nend\nend\n"
            "open func g\nguard\nfail\nafter\nrun s\nend\nend"
        )
        session = Session(Module.read(text))
        session.call("ask", given=raising)
        self.assertEqual(refused(session.call, "f"), (MoveFailed, 1, None))
        self.assertEqual(refused(session.call, "g"), (MoveFailed, 2, 0))

    def test_results_are_ignored(self):
        session = Session(ASK)
        session.call("ask", given=lambda words: "raise")
        self.assertEqual(session.run("o"), 1)
        session.call("ask", given=None)
        self.assertEqual(session.run("o", None), 3)
        session.call("ask")
        self.assertEqual(session.run("o", {}), 5)

    def test_a_callback_may_change_its_own_slot(self):
        session = Session(ASK)

        def given(_):
            if session.depth == 1:
                session.call("ask", {"x": "z"}, given=raising)

        session.call("ask", given=given)
        self.assertEqual(refused(session.call, "go"), (MoveFailed, 1, 2))
        self.assertEqual([event for event in session.trace if event[0] == "ran"], [("ran", 0, ("a", "off")), ("ran", 2, ("z", "off"))])

    def test_arguments_are_not_changed(self):
        bindings = {"p": "on"}
        Session(ASK).call("see", bindings)
        self.assertEqual(bindings, {"p": "on"})


if __name__ == "__main__":
    unittest.main()
