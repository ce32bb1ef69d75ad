"""Scopes, kept actions and engines."""

import random
import unittest

from bindspan.envs import Env
from bindspan.errors import BadName, BadValue, NoEngine, NotBindings, UnknownName
from bindspan.scopes import Kept, Scope
from tests.samples import WRONG, Spiteful, refused

NO_BINDINGS = tuple([value for value in WRONG if not isinstance(value, dict)])
DEFAULTS = {"y": "two", "x": 1, "z": 0}


class Oops(Exception):
    """An error of an action."""


def never(scope):
    raise AssertionError("the action ran")


def seen(scope):
    return (scope["x"], scope["y"])


def fail(error):
    raise error


def entered(scope, bindings, action):
    """The same as during, by a with statement."""
    with scope.binding(bindings) as inner:
        return action(inner)


class Model:
    """A scope as the document describes it, without its methods: for each layer the layers up to the root."""

    def __init__(self, defaults, engine):
        self.line = (dict(defaults),)
        self.stand = self.line
        self.engine = engine
        self.steps = 0
        self.entered = []

    def push(self, bindings):
        self.entered.append(self.line)
        # A layer is told apart from others with equal bindings by its dict object.
        self.line = (dict(bindings), *self.line)

    def push_root(self):
        self.entered.append(self.line)
        self.line = self.line[-1:]

    def pop(self):
        self.line = self.entered.pop()

    def value(self, name):
        return next(layer[name] for layer in self.line if name in layer)

    def look(self, name):
        if self.engine == "chain":
            self.steps += 1 + [name in layer for layer in self.line].index(True)
        else:
            mine, other = {id(layer) for layer in self.line}, {id(layer) for layer in self.stand}
            way = [layer for layer in self.line if id(layer) not in other]
            way += [layer for layer in self.stand if id(layer) not in mine]
            self.steps += sum(len(layer) for layer in way) + 1
            self.stand = self.line
        return self.value(name)


class MakingTest(unittest.TestCase):
    def test_defaults_and_names(self):
        scope = Scope(DEFAULTS)
        self.assertEqual((scope["x"], scope["y"], scope["z"]), (1, "two", 0))
        self.assertEqual(scope.names(), ["x", "y", "z"])
        self.assertEqual(list(scope), ["x", "y", "z"])
        self.assertEqual(scope.current(), Env(DEFAULTS))
        self.assertEqual((scope.depth, scope.steps, scope.engine), (0, 0, "chain"))

    def test_from_an_environment(self):
        self.assertEqual(Scope(Env(DEFAULTS)).current(), Env(DEFAULTS))

    def test_without_names(self):
        for engine in ("chain", "cells"):
            scope = Scope({}, engine)
            self.assertEqual((scope.names(), list(scope), scope.current()), ([], [], Env()))
            self.assertEqual(refused(scope.look, "x"), (UnknownName, "x"))
            self.assertEqual(scope.during({}, lambda inner: inner.depth), 1)

    def test_engines(self):
        self.assertEqual(Scope({}, "cells").engine, "cells")
        self.assertEqual(Scope({}, engine="chain").engine, "chain")
        for value in (*WRONG, "Chain", "cell", "chain ", "chains", None, ("chain",), ["cells"]):
            with self.assertRaises(NoEngine) as caught:
                Scope(DEFAULTS, value)
            self.assertIs(caught.exception.value, value)

    def test_bindings_are_checked_before_the_engine(self):
        for value in NO_BINDINGS:
            with self.assertRaises(NotBindings) as caught:
                Scope(value, "wrong")
            self.assertIs(caught.exception.value, value)
        self.assertEqual(refused(Scope, {"x": 1, "end": 1}, "wrong"), (BadName, "end"))
        self.assertEqual(refused(Scope, {"x": None, "end": 1}, "wrong"), (BadValue, None))
        self.assertEqual(refused(Scope, {"x": 10 ** 1000}, "wrong"), (BadValue, 10 ** 1000))
        self.assertEqual(refused(Scope, {}, "wrong"), (NoEngine, "wrong"))

    def test_names_of_any_kind(self):
        scope = Scope({"x": 1, "name0": 2})
        for value in (*WRONG, "y", "X"):
            self.assertIs(value in scope, False)
            for ask in (scope.look, scope.__getitem__):
                with self.assertRaises(UnknownName) as caught:
                    ask(value)
                self.assertIs(caught.exception.name, value)
            with self.assertRaises(UnknownName) as caught:
                scope.keep(seen, ["x", value])
            self.assertIs(caught.exception.name, value)
        self.assertIs("x" in scope, True)
        self.assertEqual(scope.steps, 0)

    def test_what_is_passed_and_returned_may_change_later(self):
        defaults, bindings, names = {"x": 1, "y": 2}, {"x": 3}, ["x"]
        scope = Scope(defaults)
        defaults["x"] = 9
        defaults["z"] = 9
        scope.names().append("z")
        span = scope.binding(bindings)

        def action(inner):
            bindings["x"] = 8
            bindings["y"] = 8
            kept = inner.keep(seen, names)
            names[:] = ["y", "q"]
            return (inner["x"], inner["y"], kept.record)

        self.assertEqual(scope.during(bindings, action), (3, 2, Env({"x": 3})))
        with span:
            self.assertEqual(seen(scope), (3, 2))
        self.assertEqual(scope.current().listed(), [("x", 1), ("y", 2)])
        self.assertEqual(scope.names(), ["x", "y"])


class LayersTest(unittest.TestCase):
    def test_the_nearest_layer_counts(self):
        for run in (Scope.during, entered):
            for engine in ("chain", "cells"):
                scope = Scope(DEFAULTS, engine)

                def innermost(inner):
                    self.assertEqual((inner["x"], inner["y"], inner.look("x"), inner.look("z")), (7, 6, 7, 0))
                    self.assertEqual(inner.current(), Env({"x": 7, "y": 6, "z": 0}))
                    return inner.depth

                def outer(inner):
                    self.assertIs(inner, scope)
                    self.assertEqual((seen(inner), inner.depth), ((5, "two"), 1))
                    self.assertEqual(run(inner, Env({"x": 7, "y": 6}), innermost), 2)
                    self.assertEqual((seen(inner), inner.depth), ((5, "two"), 1))
                    return "told"

                self.assertEqual(run(scope, {"x": 5}, outer), "told")
                self.assertEqual((seen(scope), scope.depth), ((1, "two"), 0))

    def test_an_empty_layer(self):
        for run in (Scope.during, entered):
            for bindings in ({}, Env()):
                scope = Scope(DEFAULTS)
                self.assertEqual(run(scope, bindings, lambda inner: (inner.depth, inner.look("x"), inner.steps)), (1, 1, 2))

    def test_results(self):
        scope = Scope(DEFAULTS)
        for value in (None, 0, [], scope, Spiteful()):
            self.assertIs(scope.during({}, lambda inner: value), value)
            self.assertIs(scope.apart(lambda inner: value), value)

    def test_apart(self):
        scope = Scope(DEFAULTS)

        def action(inner):
            self.assertIs(inner, scope)
            self.assertEqual((inner["x"], inner.depth), (1, 0))
            self.assertEqual(inner.during({"y": 4}, lambda last: (seen(last), last.depth)), ((1, 4), 1))
            self.assertEqual(inner.apart(lambda last: last.depth), 0)
            return "told"

        self.assertEqual(scope.apart(action), "told")
        self.assertEqual(scope.during({"x": 5}, lambda inner: (inner.apart(action), inner["x"], inner.depth)), ("told", 5, 1))
        self.assertEqual(scope.depth, 0)

    def test_errors_leave_every_call_unchanged(self):
        for error in (Oops(), KeyError("x"), UnknownName("x"), KeyboardInterrupt(), StopIteration(), GeneratorExit()):
            for run in (Scope.during, entered):
                scope = Scope(DEFAULTS)

                def outer(inner):
                    for leave in (
                        lambda: run(inner, {"x": 7}, lambda last: fail(error)),
                        lambda: inner.apart(lambda last: fail(error)),
                        lambda: inner.apart(lambda last: run(last, {"x": 8}, lambda rest: fail(error))),
                        lambda: inner.keep(lambda last: fail(error), ["y"])(),
                    ):
                        with self.assertRaises(type(error)) as caught:
                            leave()
                        self.assertIs(caught.exception, error)
                        self.assertIsNone(error.__cause__)
                        self.assertEqual((seen(inner), inner.depth), ((5, "two"), 1))
                    raise error

                with self.assertRaises(type(error)) as caught:
                    run(scope, {"x": 5}, outer)
                self.assertIs(caught.exception, error)
                self.assertEqual((seen(scope), scope.depth, scope.current()), ((1, "two"), 0, Env(DEFAULTS)))

    def test_errors_come_before_anything_else(self):
        scope = Scope({"x": 1, "y": 2}, "cells")
        for bindings, error in (
            ({"q": 1, "x": 2}, (UnknownName, "q")), ({"x": 2, "zz": 1, "a": 1}, (UnknownName, "zz")),
            (Env({"x": 2, "zz": 1, "a": 1}), (UnknownName, "a")), ({"q": 1, "end": 2}, (BadName, "end")),
            ({"q": 1, "x": None}, (BadValue, None)), ({"q": None, "end": 2}, (BadValue, None)), ([("x", 1)], (NotBindings, [("x", 1)])),
            (None, (NotBindings, None)), ({"q": 1}, (UnknownName, "q")),
        ):
            self.assertEqual(refused(scope.during, bindings, never), error)
            self.assertEqual(refused(scope.binding, bindings), error)
            self.assertEqual((scope.depth, scope.steps, seen(scope)), (0, 0, (1, 2)))
        for value in NO_BINDINGS:
            for call in (lambda: scope.during(value, never), lambda: scope.binding(value)):
                with self.assertRaises(NotBindings) as caught:
                    call()
                self.assertIs(caught.exception.value, value)

    def test_binding_makes_its_layer_when_the_block_begins(self):
        scope = Scope({"x": 1, "y": 2})
        span = scope.binding({"x": 5})
        self.assertEqual((scope["x"], scope.depth), (1, 0))

        def action(inner):
            with span as last:
                self.assertIs(last, scope)
                self.assertEqual((seen(last), last.depth), ((5, 7), 2))
            self.assertEqual((seen(inner), inner.depth), ((6, 7), 1))

        scope.during({"x": 6, "y": 7}, action)

    def test_several_with_statements(self):
        scope = Scope({"x": 1, "y": 2})
        with scope.binding({"x": 3}), scope.binding({"y": 4}) as inner:
            self.assertEqual((seen(inner), inner.depth), ((3, 4), 2))
            with inner.binding({"y": 5}):
                self.assertEqual((seen(inner), inner.depth), ((3, 5), 3))
            self.assertEqual(inner.apart(seen), (1, 2))
        self.assertEqual((seen(scope), scope.depth), ((1, 2), 0))

    def test_a_return_out_of_a_with_statement(self):
        scope = Scope({"x": 1, "y": 2})

        def action():
            for value in (3, 4):
                with scope.binding({"x": value}):
                    if value == 3:
                        continue
                    return scope["x"]

        self.assertEqual((action(), scope.depth), (4, 0))

    def test_actions_in_several_scopes(self):
        first, second = Scope({"x": 1, "y": 2}), Scope({"x": 3, "y": 4})
        told = first.during({"x": 5}, lambda one: second.during({"y": 6}, lambda two: (seen(one), seen(two), two is second)))
        self.assertEqual(told, ((5, 2), (3, 6), True))


class KeptTest(unittest.TestCase):
    def test_the_example(self):
        scope = Scope({"x": 0, "y": 0})
        kept = scope.during({"x": 1, "y": 1}, lambda t: t.keep(lambda u: (u["x"], u["y"]), ["x"]))
        told = scope.during({"x": 7, "y": 7}, lambda t: (kept(), kept.also(["y", "x"])(), kept(Scope({"x": 5, "y": 6}))))
        self.assertEqual(told, ((1, 7), (1, 7), (1, 6)))

    def test_fields(self):
        scope = Scope(DEFAULTS)
        kept = scope.during({"x": 5}, lambda inner: inner.keep(seen, ("z", "x", "z")))
        self.assertIsInstance(kept, Kept)
        self.assertIsInstance(kept.record, Env)
        self.assertEqual(kept.record, Env({"x": 5, "z": 0}))
        self.assertIs(kept.home, scope)
        self.assertEqual(scope.keep(seen).record, Env())
        self.assertEqual(scope.keep(seen, names=["y"]).record, Env({"y": "two"}))

    def test_no_steps_and_no_layers(self):
        for engine in ("chain", "cells"):
            scope = Scope(DEFAULTS, engine)
            kept = scope.during({"x": 5}, lambda inner: inner.keep(seen, ["x", "y"]).also(["z"]))
            self.assertEqual((scope.steps, scope.depth, len(kept)), (0, 0, 3))

    def test_the_record_lies_over_the_place_where_the_home_is(self):
        scope = Scope(DEFAULTS)
        kept = scope.during({"x": 5, "y": 6}, lambda inner: inner.keep(lambda one: (seen(one), one.depth), ["x"]))
        self.assertEqual(kept(), ((5, "two"), 1))
        self.assertEqual(kept(None), ((5, "two"), 1))
        self.assertEqual(kept(scope), ((5, "two"), 1))
        self.assertEqual(scope.during({"x": 8, "y": 9}, lambda inner: kept()), ((5, 9), 2))
        self.assertEqual(scope.during({"x": 8, "y": 9}, lambda inner: inner.apart(lambda root: kept())), ((5, "two"), 1))

    def test_inner_layers_lie_over_the_record(self):
        scope = Scope(DEFAULTS)
        kept = scope.keep(lambda one: (one.during({"x": 9}, seen), seen(one), one.apart(seen)), ["x"])
        self.assertEqual(scope.during({"x": 4, "y": 3}, lambda inner: kept()), ((9, 3), (1, 3), (1, "two")))

    def test_in_another_scope(self):
        home, other = Scope(DEFAULTS), Scope({"x": 10, "y": 11, "q": 12})
        kept = home.during({"x": 5}, lambda inner: inner.keep(lambda one: (one is other, seen(one), one.depth, home.depth), ["x"]))
        self.assertEqual(kept(other), (True, (5, 11), 1, 0))
        self.assertEqual(other.during({"y": 13}, kept), (True, (5, 13), 2, 0))
        self.assertEqual(home.during({"y": 3}, lambda inner: kept(other)), (True, (5, 11), 1, 1))
        self.assertEqual((home.depth, other.depth), (0, 0))

    def test_in_a_scope_that_lacks_a_captured_name(self):
        home = Scope({"b": 1, "d": 2, "c": 3, "a": 4})
        for names, other, error in (
            (["d", "b", "c"], {"b": 0}, "c"), (["d", "c", "b"], {"a": 1}, "b"), (["d"], {}, "d"),
            (["a", "d", "c", "b"], {"a": 1, "b": 1, "c": 1}, "d"),
        ):
            scope = Scope(other)
            self.assertEqual(refused(home.keep(never, names), scope), (UnknownName, error))
            self.assertEqual((scope.depth, home.depth), (0, 0))

    def test_within_its_own_run(self):
        scope = Scope({"x": 0, "y": 0})
        depths = []

        def action(inner):
            depths.append((inner.depth, seen(inner)))
            if inner["y"] < 3:
                inner.during({"x": 9, "y": inner["y"] + 1}, lambda last: kept())

        kept = scope.during({"x": 7}, lambda inner: inner.keep(action, ["x"]))
        kept()
        self.assertEqual(depths, [(1, (7, 0)), (3, (7, 1)), (5, (7, 2)), (7, (7, 3))])
        self.assertEqual(scope.depth, 0)
        kept()
        self.assertEqual(len(depths), 8)

    def test_also(self):
        scope = Scope({"x": 0, "y": 0, "z": 0})
        kept = scope.during({"x": 1, "y": 1}, lambda inner: inner.keep(lambda one: one.current(), ["x"]))
        more = scope.during({"x": 2, "y": 2, "z": 2}, lambda inner: kept.also(("y", "x", "y")))
        self.assertIsInstance(more, Kept)
        self.assertEqual((kept.record, more.record), (Env({"x": 1}), Env({"x": 1, "y": 2})))
        self.assertIs(more.home, scope)
        self.assertEqual(more(), Env({"x": 1, "y": 2, "z": 0}))
        self.assertEqual(kept(), Env({"x": 1, "y": 0, "z": 0}))
        self.assertEqual(kept.also([]).record, kept.record)
        self.assertIsNot(kept.also([]), kept)
        self.assertEqual(scope.apart(lambda root: kept.also(["z"])).record, Env({"x": 1, "z": 0}))

    def test_also_speaks_of_the_home(self):
        home, other = Scope({"x": 0, "y": 0}), Scope({"x": 5, "y": 6})
        kept = home.keep(lambda one: kept.also(["y"]).record, ["x"])
        self.assertEqual(kept(other), Env({"x": 0, "y": 0}))
        self.assertEqual(home.during({"y": 3}, lambda inner: kept(other)), Env({"x": 0, "y": 3}))

    def test_also_within_its_own_run(self):
        scope = Scope({"x": 0, "y": 0})
        kept = scope.keep(lambda one: kept.also(["x", "y"]).record, ["x"])
        self.assertEqual(scope.during({"x": 4, "y": 5}, lambda inner: kept()), Env({"x": 0, "y": 5}))

    def test_unknown_names(self):
        scope = Scope({"x": 0, "y": 0})
        kept = scope.keep(seen, ["x"])
        for names, error in ((["q"], "q"), (("x", "zz", "a"), "zz"), (["y", "", "q"], ""), ([None, "q"], None)):
            self.assertEqual(refused(scope.keep, never, names), (UnknownName, error))
            self.assertEqual(refused(kept.also, names), (UnknownName, error))
        self.assertEqual(kept.record, Env({"x": 0}))
        for value in WRONG:
            with self.assertRaises(UnknownName) as caught:
                kept.also(["x", value])
            self.assertIs(caught.exception.name, value)

    def test_captured_names(self):
        scope = Scope(DEFAULTS)
        kept = scope.keep(seen, ["z", "x"])
        self.assertEqual((kept["x"], kept["z"]), (1, 0))
        self.assertEqual(list(kept), ["x", "z"])
        self.assertEqual((len(kept), bool(kept), len(scope.keep(seen)), bool(scope.keep(seen))), (2, True, 0, False))
        self.assertEqual((list(scope.keep(seen)), "x" in kept, "y" in kept), ([], True, False))
        for value in (*WRONG, "y", "q"):
            self.assertIs(value in kept, False)
            with self.assertRaises(UnknownName) as caught:
                kept[value]
            self.assertIs(caught.exception.name, value)

    def test_the_record_stays(self):
        scope = Scope({"x": 0, "y": 0})
        names = ["x"]
        kept = scope.keep(seen, names)
        names.append("y")
        scope.during({"x": 4}, lambda inner: kept())
        self.assertEqual((kept.record, len(kept)), (Env({"x": 0}), 1))


class EnginesTest(unittest.TestCase):
    def test_the_example(self):
        scope = Scope({"x": 0, "y": 0}, "cells")
        told = scope.during(
            {"x": 5}, lambda t: t.during({"y": 6, "x": 7}, lambda u: (u.look("x"), u.steps, u.look("y"), u.steps))
        )
        self.assertEqual((told, scope.look("x"), scope.steps), ((7, 4, 6, 5), 0, 9))

    def cost(self, scope, name):
        before = scope.steps
        scope.look(name)
        return scope.steps - before

    def test_chain(self):
        scope = Scope({"x": 0, "y": 0})
        with scope.binding({"x": 1}), scope.binding({}), scope.binding({"x": 2}):
            self.assertEqual((self.cost(scope, "x"), self.cost(scope, "y")), (1, 4))
            with scope.binding({}):
                self.assertEqual((self.cost(scope, "x"), self.cost(scope, "y")), (2, 5))
                self.assertEqual(scope.apart(lambda root: (self.cost(root, "x"), self.cost(root, "y"))), (1, 1))
        self.assertEqual((self.cost(scope, "x"), self.cost(scope, "x")), (1, 1))
        self.assertEqual(scope.steps, 16)

    def test_cells_go_down_and_up(self):
        scope = Scope({"x": 0, "y": 0, "z": 0}, "cells")
        self.assertEqual(self.cost(scope, "x"), 1)
        with scope.binding({"x": 1, "y": 1}), scope.binding({}), scope.binding({"z": 2}):
            self.assertEqual((self.cost(scope, "x"), self.cost(scope, "y")), (4, 1))
            with scope.binding({"x": 3, "y": 3, "z": 3}):
                self.assertEqual(self.cost(scope, "z"), 4)
            self.assertEqual(self.cost(scope, "z"), 4)
            self.assertEqual(scope.apart(lambda root: self.cost(root, "x")), 4)
            self.assertEqual(self.cost(scope, "z"), 4)
        self.assertEqual(self.cost(scope, "x"), 4)
        self.assertEqual(self.cost(scope, "y"), 1)

    def test_cells_from_another_branch(self):
        scope = Scope({"x": 0, "y": 0, "z": 0}, "cells")
        with scope.binding({"x": 1}):
            with scope.binding({"x": 2, "y": 2}):
                self.assertEqual(self.cost(scope, "x"), 4)
            with scope.binding({"x": 2, "y": 2, "z": 2}):
                # Up over two bindings, down over three: the layer that both lines share costs nothing.
                self.assertEqual(self.cost(scope, "x"), 6)
        with scope.binding({"y": 9}):
            self.assertEqual(self.cost(scope, "x"), 1 + 3 + 1 + 1)

    def test_an_equal_layer_is_another_one(self):
        scope = Scope({"x": 0, "y": 0}, "cells")
        for wanted in (2, 3, 3):
            with scope.binding({"x": 1}):
                self.assertEqual(self.cost(scope, "x"), wanted)

    def test_cells_after_an_error(self):
        scope = Scope({"x": 0, "y": 0}, "cells")

        def action(inner):
            inner.look("y")
            raise Oops

        with self.assertRaises(Oops):
            scope.during({"x": 1, "y": 2}, action)
        self.assertEqual(scope.steps, 3)
        self.assertEqual((scope.look("y"), scope.steps), (0, 6))

    def test_what_takes_no_steps(self):
        for engine in ("chain", "cells"):
            scope = Scope({"x": 0, "y": 0}, engine)

            def action(inner):
                kept = inner.keep(seen, ["x"])
                inner.current(), inner.names(), list(inner), "x" in inner, inner["x"], kept(), kept.also(["y"])
                inner.apart(seen), inner.during({"x": 1}, seen), kept["x"], inner.depth, inner.steps, inner.engine
                for name in ("q", None, [], "X"):
                    refused(inner.look, name), refused(inner.__getitem__, name), refused(inner.keep, never, [name])
                refused(inner.during, {"q": 1}, never), refused(inner.binding, {"x": None}), refused(inner.use, "no")
                return inner.steps

            self.assertEqual(scope.during({"x": 4, "y": 4}, action), 0)
            self.assertEqual((scope.look("x"), scope.steps), (0, 1))

    def test_an_unknown_name_does_not_move_the_table(self):
        scope = Scope({"x": 0, "y": 0}, "cells")
        with scope.binding({"x": 1, "y": 1}):
            self.assertEqual(refused(scope.look, "q"), (UnknownName, "q"))
        self.assertEqual((scope.steps, self.cost(scope, "x")), (0, 1))

    def test_only_looks_under_cells_move_the_table(self):
        scope = Scope({"x": 0, "y": 0}, "cells")
        with scope.binding({"x": 1, "y": 1}):
            scope.engine = "chain"
            self.assertEqual(self.cost(scope, "x"), 1)
            scope.engine = "cells"
            self.assertEqual(scope["x"], 1)
        self.assertEqual(self.cost(scope, "x"), 1)
        with scope.binding({"x": 1, "y": 1}):
            self.assertEqual(self.cost(scope, "x"), 3)
            scope.use("chain")
        self.assertEqual(self.cost(scope, "x"), 1)
        scope.use("cells")
        self.assertEqual(self.cost(scope, "x"), 3)

    def test_assigning_the_engine(self):
        scope = Scope({"x": 0})
        for engine in ("cells", "chain", "chain", "cells", "cells"):
            scope.engine = engine
            self.assertEqual((scope.engine, scope.steps), (engine, 0))
        self.assertIsNone(scope.use("chain"))
        self.assertEqual(scope.engine, "chain")

    def test_no_engine(self):
        for engine in ("chain", "cells"):
            scope = Scope({"x": 0}, engine)
            for value in (*WRONG, "Cells", "", "chain ", "c"):
                with self.assertRaises(NoEngine) as caught:
                    scope.engine = value
                self.assertIs(caught.exception.value, value)
                with self.assertRaises(NoEngine) as caught:
                    scope.use(value)
                self.assertIs(caught.exception.value, value)
                self.assertEqual((scope.engine, scope.steps), (engine, 0))

    def test_an_engine_that_is_assigned_within_an_action_stays(self):
        scope = Scope({"x": 0, "y": 0})

        def action(inner):
            inner.look("x")
            inner.engine = "cells"
            inner.look("x")
            raise Oops

        with self.assertRaises(Oops):
            scope.during({"y": 1}, action)
        # Two steps by the chain; then down over one binding, the look, and up again.
        self.assertEqual((scope.engine, scope.steps), ("cells", 4))
        self.assertEqual((scope.look("y"), scope.steps), (0, 6))

    def test_properties_cannot_be_assigned(self):
        scope = Scope({"x": 0})
        for name in ("depth", "steps"):
            with self.assertRaises(AttributeError):
                setattr(scope, name, 1)


class RandomTest(unittest.TestCase):
    """Random actions in two scopes, beside a model of each."""

    def test_against_the_model(self):
        for seed in range(120):
            self.dice = random.Random(seed)
            self.kept = []
            self.budget = 120
            self.pairs = []
            for names in ("abcd", "abcd" if seed % 2 else "abc"):
                defaults = {name: self.dice.randrange(3) for name in names}
                engine = self.dice.choice(["chain", "cells"])
                self.pairs.append((Scope(defaults, engine), Model(defaults, engine)))
            while self.budget:
                self.act(*self.dice.choice(self.pairs), 0)

    def compare(self):
        for scope, model in self.pairs:
            self.assertEqual((scope.steps, scope.depth, scope.engine), (model.steps, len(model.line) - 1, model.engine))
            self.assertEqual(scope.current(), Env({name: model.value(name) for name in model.line[-1]}))

    def act(self, scope, model, level):
        """A few random things in a scope; perhaps an error at the end."""
        for _ in range(self.dice.randrange(1, 6)):
            if self.budget:
                self.budget -= 1
                getattr(self, "try_" + self.dice.choice(
                    ["look", "look", "look", "during", "during", "binding", "apart", "engine", "keep", "run", "also"]
                    if level < 12 else ["look", "engine", "keep"]
                ))(scope, model, level)
                self.compare()
        if level and self.dice.randrange(4) == 0:
            raise Oops

    def bindings(self, scope):
        names = self.dice.sample(scope.names(), self.dice.randrange(len(scope.names()) + 1))
        table = {name: self.dice.randrange(9) for name in names}
        return self.dice.choice([table, Env(table)]), table

    def within(self, push, scope, model, level):
        """An action that pushes a layer on the model for its time."""
        def action(inner):
            self.assertIs(inner, scope)
            push()
            try:
                self.compare()
                self.act(scope, model, level + 1)
            finally:
                model.pop()
            return "told"
        return action

    def leave(self, run):
        try:
            self.assertEqual(run(), "told")
        except Oops:
            pass

    def try_look(self, scope, model, level):
        name = self.dice.choice(scope.names())
        self.assertEqual(scope[name], model.value(name))
        self.assertEqual(scope.look(name), model.look(name))

    def try_during(self, scope, model, level):
        bindings, table = self.bindings(scope)
        self.leave(lambda: scope.during(bindings, self.within(lambda: model.push(table), scope, model, level)))

    def try_binding(self, scope, model, level):
        bindings, table = self.bindings(scope)
        self.leave(lambda: entered(scope, bindings, self.within(lambda: model.push(table), scope, model, level)))

    def try_apart(self, scope, model, level):
        self.leave(lambda: scope.apart(self.within(model.push_root, scope, model, level)))

    def try_engine(self, scope, model, level):
        model.engine = self.dice.choice(["chain", "cells"])
        if self.dice.randrange(2):
            scope.engine = model.engine
        else:
            scope.use(model.engine)

    def try_keep(self, scope, model, level):
        names = self.dice.choices(scope.names(), k=self.dice.randrange(4))
        record = {name: model.value(name) for name in names}
        place = len(self.kept)
        kept = scope.keep(lambda inner: self.running(place, inner), names)
        self.kept.append([kept, record, model])
        self.assertEqual(kept.record, Env(record))

    def running(self, place, inner):
        """The kept action: what it does is told by the last call."""
        return self.now(inner)

    def try_run(self, scope, model, level):
        if not self.kept:
            return
        kept, record, home = self.dice.choice(self.kept)
        given = None
        inner, mine = kept.home, home
        if self.dice.randrange(2):
            given = scope
            inner, mine = scope, model
        missing = [name for name in sorted(record) if name not in inner]
        if missing:
            self.assertEqual(refused(kept, given), (UnknownName, missing[0]))
            return
        self.now = self.within(lambda: mine.push(record), inner, mine, level)
        self.leave(lambda: kept(given) if given is not None or self.dice.randrange(2) else kept())

    def try_also(self, scope, model, level):
        if self.kept:
            kept, record, home = self.dice.choice(self.kept)
            names = self.dice.choices(kept.home.names(), k=self.dice.randrange(4))
            more = {name: record.get(name, home.value(name)) for name in {*names, *record}}
            self.kept.append([kept.also(names), more, home])
            self.assertEqual(self.kept[-1][0].record, Env(more))
            self.assertEqual(kept.record, Env(record))


if __name__ == "__main__":
    unittest.main()
