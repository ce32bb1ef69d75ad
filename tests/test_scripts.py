"""The form of scripts, the order of writing, depth and count: points 19, 20 and 23."""

import copy
import inspect
import unittest

from bindspan.errors import BadScript
from bindspan.modules import Module
from bindspan.runs import general, run
from bindspan.scripts import check_script, count_moves, depth_of, walk
from tests.runner import Caller
from tests.samples import M_TEXT, WRONG, Maker, refused

M = Module.read(M_TEXT)
PUT = ("call", "put", {}, ())
RUN = ("run", "box", {}, ())


def with_reactions(*reactions, move=PUT):
    return (*move[:3], reactions)


def nested_script(depth, inner=(PUT,)):
    script = inner
    for _ in range(depth):
        script = (with_reactions((script, "return")),)
    return script


class FormTest(unittest.TestCase):
    def test_scripts_that_are_right(self):
        for script in (
            (), [], (PUT,), [PUT, RUN], (("call", "put", {"x": "red"}, []),), (("run", "box", {"lit": "on", "x": "0"}, ()),),
            (with_reactions(((), "return"), ([], "raise")),), [("call", "put", {}, [([RUN, PUT], "raise"), ((PUT,), "return")])],
            (("call", "put", {"x": "on", "lit": "off"}, ()),), (("call", "put", {"x": "name"}, ()),),
        ):
            self.assertIsNone(check_script(M, script))
            self.assertIsInstance(run(M, script).events, tuple)

    def test_no_list_and_no_tuple(self):
        for script in (*WRONG, PUT[:3], {"a": PUT}, "call", {PUT[:2]}):
            if not isinstance(script, (list, tuple)):
                for check in (check_script, run, general):
                    self.assertEqual(refused(check, M, script), (BadScript, 0))

    def test_wrong_moves(self):
        wrong = [
            ["call", "put", {}, ()], ("call", "put", {}), ("call", "put", {}, (), ()), ("call",), (),
            ("run", "put", {}, ()), ("call", "box", {}, ()), ("call", "show", {}, ()), ("call", "x", {}, ()),
            ("call", "lit", {}, ()), ("call", "nothing", {}, ()), ("Call", "put", {}, ()), ("keep", "box", {}, ()),
            ("call", "put", {"y": "red"}, ()), ("call", "put", {"put": "red"}, ()), ("call", "put", {"box": "on"}, ()),
            ("call", "put", {"x": "Red"}, ()), ("call", "put", {"x": ""}, ()), ("call", "put", {"x": "r" * 13}, ()),
            ("call", "put", {"lit": "red"}, ()), ("call", "put", {"x": "a", "lit": "ON"}, ()), ("call", "put", {"": "a"}, ()),
            ("call", "put", [("x", "a")], ()), ("call", "put", (), ()), ("call", "put", None, ()),
            ("call", "put", {}, {}), ("call", "put", {}, "ab"), ("call", "put", {}, None),
            with_reactions([(), "return"]), with_reactions(((), "return", ())), with_reactions(((),)), with_reactions(()),
            with_reactions(((), "raises")), with_reactions(((), None)), with_reactions(({}, "return")),
            with_reactions((None, "return")), with_reactions(("", "return")), with_reactions(((), ("return",))),
            with_reactions(((), "return"), None), with_reactions(((), "return"), "return"),
        ]
        for move in wrong:
            for script, number in (((move,), 0), ([PUT, RUN, move], 2), (nested_script(2, (PUT, move)), 3)):
                for check in (check_script, run, general):
                    self.assertEqual(refused(check, M, script), (BadScript, number), move)

    def test_values_of_any_kind_at_every_place(self):
        for value in WRONG:
            moves = [
                value, (value, "put", {}, ()), ("call", value, {}, ()), ("call", "put", {"lit": value}, ()),
                with_reactions(value), with_reactions(((), value)),
            ]
            # These are right at some places.
            if not isinstance(value, (list, tuple)):
                moves += [with_reactions((value, "return")), ("call", "put", {}, value)]
            if not isinstance(value, str):
                moves.append(("call", "put", {"x": value}, ()))
            if not isinstance(value, dict):
                moves.append(("call", "put", value, ()))
            for at, move in enumerate(moves):
                self.assertEqual(refused(check_script, M, [RUN, move]), (BadScript, 1), (at, type(value)))

    def test_the_form_of_reactions_counts_but_not_the_moves_in_them(self):
        bad = ("call", "nothing", {}, ())
        # The outer move is right, so that the inner one is the first wrong one.
        self.assertEqual(refused(check_script, M, [PUT, with_reactions(((PUT, bad), "return")), bad]), (BadScript, 3))
        # The outer move is wrong, whatever stands in its first reaction.
        self.assertEqual(refused(check_script, M, [PUT, with_reactions(((bad,), "return"), ((), "no"))]), (BadScript, 1))
        self.assertEqual(refused(check_script, M, [with_reactions(((PUT,), "return"), ((bad,), "return")), bad]), (BadScript, 2))

    def test_the_first_wrong_one_in_the_order_of_writing(self):
        bad = ("run", "put", {}, ())
        script = [PUT, with_reactions(((RUN, with_reactions(((PUT,), "return"))), "raise"), ((PUT, bad), "return")), bad]
        self.assertEqual(refused(check_script, M, script), (BadScript, 6))

    def test_the_script_is_not_changed(self):
        script = [("call", "put", {"x": "a"}, [([RUN], "raise")]), RUN]
        before = copy.deepcopy(script)
        check_script(M, script)
        list(walk(script))
        run(M, script)
        general(M, script)
        self.assertEqual(script, before)


class WalkTest(unittest.TestCase):
    def test_the_examples_of_the_document(self):
        inner = (("call", "put", {}, ()),)
        script = [("run", "box", {}, [(inner, "raise"), ((), "return")])]
        self.assertEqual((count_moves(script), depth_of(script)), (2, 1))
        self.assertEqual(refused(check_script, M, [("call", "put", {}, ()), ("call", "show", {}, ())]), (BadScript, 1))

    def test_levels_and_order(self):
        inner = ("run", "box", {"x": "a"}, [([PUT], "return")])
        outer = ("call", "put", {"x": "b"}, (((RUN, inner), "return"), ([], "raise"), ([PUT], "raise")))
        found = list(walk([outer, RUN]))
        self.assertEqual(found, [(0, outer), (1, RUN), (1, inner), (2, PUT), (1, PUT), (0, RUN)])
        self.assertEqual(list(walk(())), [])
        self.assertTrue(inspect.isgeneratorfunction(walk))

    def test_counts_and_depths(self):
        for script, count, depth in (
            ((), 0, 0), ([], 0, 0), ([PUT, RUN], 2, 0), ((with_reactions(((), "return"), ([], "raise")),), 1, 0),
            ([("run", "box", {}, [((PUT,), "raise"), ((), "return")])], 2, 1), (nested_script(6), 7, 6),
            ([PUT, with_reactions((nested_script(1), "return"), ((PUT, PUT), "raise")), PUT], 7, 2),
        ):
            self.assertEqual((count_moves(script), depth_of(script)), (count, depth))

    def test_random_scripts_against_the_words_of_the_document(self):
        def depth(script):
            inner = [one for move in script for one, _ in move[3]]
            return 1 + max(depth(one) for one in inner) if any(inner) else 0

        def count(script):
            return sum(1 + sum(count(one) for one, _ in move[3]) for move in script)

        for seed in range(200):
            script = Caller(Module(Maker(seed).parts), seed).script(4, 3)
            self.assertEqual((count_moves(script), depth_of(script)), (count(script), depth(script)))

    def test_far_beyond_the_bounds(self):
        script = nested_script(400)
        self.assertEqual((count_moves(script), depth_of(script)), (401, 400))
        self.assertIsNone(check_script(M, script))


if __name__ == "__main__":
    unittest.main()
