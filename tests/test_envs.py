"""Environments."""

import random
import unittest

from bindspan.captures import Captures
from bindspan.envs import Env
from bindspan.errors import BadName, BadValue, NotBindings, UnknownName
from tests.samples import KEPT, WRONG, Odd, Spiteful, refused

LONGEST = 10 ** 1000 - 1
BAD_NAMES = (*KEPT, "", " ", "X", "aB", "1a", "0", "a_b", "a b", "a\n", "x" * 13, "\u00e9", 0, 1, None, True, (), ("x",), 1.5, b"x")
BAD_VALUES = (
    True, False, None, 1.0, 0.0, float("nan"), [], ["x"], (), (1,), {}, {"x": 1}, {1}, b"x", b"", 10 ** 1000, -10 ** 1000,
    10 ** 5000, -10 ** 5000, object(), Odd(), Spiteful(), len, int, Env(), Env({"x": 1}), 1j,
)
NO_BINDINGS = tuple([
    value for value in (*WRONG, [("x", 1)], (("x", 1),), "x", 5, {"x"}, Captures(), len) if not isinstance(value, dict)
])


class MakingTest(unittest.TestCase):
    def test_pairs_are_ascending(self):
        env = Env({"y": "two", "x": 1, "b0": 0, "b": ""})
        self.assertEqual(env.listed(), [("b", ""), ("b0", 0), ("x", 1), ("y", "two")])
        self.assertEqual(env.names(), ["b", "b0", "x", "y"])
        self.assertEqual(list(env), ["b", "b0", "x", "y"])

    def test_empty(self):
        for env in (Env(), Env(None), Env({}), Env(Env()), Env(bindings=None)):
            self.assertEqual((env.listed(), env.names(), list(env), len(env), str(env)), ([], [], [], 0, ""))
            self.assertFalse(env)
            self.assertEqual(env, Env())

    def test_from_an_environment(self):
        env = Env({"y": 1, "x": 2})
        self.assertEqual(Env(env).listed(), [("x", 2), ("y", 1)])
        self.assertEqual(Env(env), env)

    def test_no_bindings(self):
        for value in NO_BINDINGS:
            if value is not None:
                with self.assertRaises(NotBindings) as caught:
                    Env(value)
                self.assertIs(caught.exception.value, value)

    def test_names(self):
        for name in BAD_NAMES:
            self.assertEqual(refused(Env, {name: 1}), (BadName, name))
        for name in ("x", "a" * 12, "a0", "names", "z9z", "ofx"):
            self.assertEqual(Env({name: 1}).names(), [name])

    def test_values(self):
        for value in BAD_VALUES:
            with self.assertRaises(BadValue) as caught:
                Env({"x": value})
            self.assertIs(caught.exception.value, value)
        for value in ("", "x", "No such word!", "x" * 5000, "\u00e9\n", "of", 0, 1, -1, 7, LONGEST, -LONGEST, 10 ** 999):
            self.assertEqual(Env({"x": value})["x"], value)

    def test_the_bounds_of_integers(self):
        for number in (10 ** 999 - 1, 10 ** 999, LONGEST, LONGEST - 1, LONGEST // 3):
            self.assertIsNone(refused(Env, {"x": number}))
            self.assertIsNone(refused(Env, {"x": -number}))
        for number in (10 ** 1000, 10 ** 1000 + 1, 2 * 10 ** 1000, 10 ** 1001 - 1):
            self.assertEqual(refused(Env, {"x": number}), (BadValue, number))
            self.assertEqual(refused(Env, {"x": -number}), (BadValue, -number))

    def test_the_first_wrong_pair_its_name_before_its_value(self):
        for bindings, error in (
            ({"x": 1, "Y": None, "Z": 1}, (BadName, "Y")), ({"x": None, "Y": 1}, (BadValue, None)),
            ({"Y": 1, "x": None}, (BadName, "Y")), ({"z": 1.5, "a": None}, (BadValue, 1.5)),
            ({"z": 1, "b": [], "a": None}, (BadValue, [])), ({"end": True, "x": False}, (BadName, "end")),
            ({"x": False, "end": True}, (BadValue, False)), ({1: None}, (BadName, 1)),
        ):
            self.assertEqual(refused(Env, bindings), error)

    def test_what_is_passed_and_returned_may_change_later(self):
        bindings = {"x": 1}
        env = Env(bindings)
        bindings["x"] = 2
        bindings["y"] = 3
        env.names().append("z")
        env.listed().append(("z", 1))
        del env.listed()[0]
        self.assertEqual(env.listed(), [("x", 1)])
        self.assertEqual(env.names(), ["x"])
        self.assertEqual(bindings, {"x": 2, "y": 3})


class AskingTest(unittest.TestCase):
    env = Env({"x": 1, "y": "two"})

    def test_values_of_names(self):
        self.assertEqual((self.env["x"], self.env["y"]), (1, "two"))
        self.assertEqual(Env({"x": 0, "y": ""})["y"], "")

    def test_unknown_names(self):
        for name in ("z", "X", "", "xy", *WRONG):
            with self.assertRaises(UnknownName) as caught:
                self.env[name]
            self.assertIs(caught.exception.name, name)
            self.assertIs(name in self.env, False)
        self.assertEqual(refused(Env().__getitem__, "x"), (UnknownName, "x"))

    def test_in(self):
        self.assertIs("x" in self.env, True)
        self.assertIs("two" in self.env, False)
        self.assertIs("x" in Env(), False)
        self.assertIs("x" in Env({"x": 0}), True)

    def test_len_and_truth(self):
        self.assertEqual([len(Env()), len(Env({"x": 0})), len(self.env)], [0, 1, 2])
        self.assertTrue(Env({"x": 0}))
        self.assertTrue(Env({"x": ""}))

    def test_str(self):
        self.assertEqual(str(self.env), "x=1 y=two")
        self.assertEqual(str(Env({"y": "two", "x": -1, "a": "b c="})), "a=b c= x=-1 y=two")
        self.assertEqual(str(Env({"x": ""})), "x=")
        self.assertEqual(str(Env({"x": LONGEST, "y": -LONGEST})), "x=" + "9" * 1000 + " y=-" + "9" * 1000)

    def test_equal(self):
        self.assertTrue(self.env == Env({"y": "two", "x": 1}))
        self.assertFalse(self.env != Env({"y": "two", "x": 1}))
        for other in (Env(), Env({"x": 1}), Env({"x": 1, "y": "tw"}), Env({"x": "1", "y": "two"}), Env({"x": 1, "z": "two"})):
            self.assertFalse(self.env == other)
            self.assertTrue(self.env != other)
        for value in (*WRONG, {"x": 1, "y": "two"}, [("x", 1), ("y", "two")], "x=1 y=two", Captures()):
            self.assertIs(self.env == value, False)
            self.assertIs(Env() == value, False)
            self.assertIs(Env() != value, True)

    def test_within(self):
        for first, second, wanted in (
            ({}, {}, True), ({}, {"x": 1}, True), ({"x": 1}, {}, False), ({"x": 1}, {"x": 1}, True),
            ({"x": 1}, {"x": 2}, False), ({"x": 1}, {"x": "1"}, False), ({"x": 1}, {"y": 1, "x": 1}, True),
            ({"x": 1, "y": 1}, {"x": 1}, False), ({"x": 1, "y": 1}, {"x": 1, "y": 2, "z": 1}, False),
        ):
            self.assertIs(Env(first).within(Env(second)), wanted)


class OperatorsTest(unittest.TestCase):
    def test_examples(self):
        self.assertEqual(({"x": 9, "k": 4} | Env({"x": 1, "y": "two"})).listed(), [("k", 4), ("x", 1), ("y", "two")])
        self.assertEqual(str(Env({"y": "two", "x": 1}) - ["x", "q"]), "y=two")

    def test_the_right_operand_stands(self):
        first, second = {"x": 1, "y": 2}, {"z": 3, "y": 4}
        for left, right in ((Env(first), Env(second)), (Env(first), second), (first, Env(second))):
            self.assertIsInstance(left | right, Env)
            self.assertEqual((left | right).listed(), [("x", 1), ("y", 4), ("z", 3)])
        self.assertEqual((first, second), ({"x": 1, "y": 2}, {"z": 3, "y": 4}))

    def test_or_with_nothing(self):
        env = Env({"x": 1})
        for other in ({}, Env()):
            self.assertEqual(env | other, env)
            self.assertEqual(other | env, env)

    def test_or_with_wrong_dicts(self):
        env = Env({"x": 1})
        for bindings, error in (
            ({"y": 1, "Z": None, "a": None}, (BadName, "Z")), ({"y": None, "Z": 1}, (BadValue, None)),
            ({"x": True}, (BadValue, True)), ({0: 1}, (BadName, 0)),
        ):
            self.assertEqual(refused(lambda: env | bindings), error)
            self.assertEqual(refused(lambda: bindings | env), error)
            self.assertEqual(refused(lambda: bindings | Env()), error)

    def test_or_with_what_is_no_bindings(self):
        for env in (Env(), Env({"x": 1})):
            for value in NO_BINDINGS:
                with self.assertRaises(NotBindings) as caught:
                    env | value
                self.assertIs(caught.exception.value, value)
                if not isinstance(value, (Odd, Captures)):
                    with self.assertRaises(NotBindings) as caught:
                        value | env
                    self.assertIs(caught.exception.value, value)

    def test_less_and_only(self):
        env = Env({"x": 1, "y": "two", "z": 3})
        for names, less, only in (
            ([], "x=1 y=two z=3", ""), (["y"], "x=1 z=3", "y=two"), (("z", "x", "z"), "y=two", "x=1 z=3"),
            (["q", "xy", ""], "x=1 y=two z=3", ""), (["z", "q", "y", "x"], "", "x=1 y=two z=3"),
            (["name", "q", "z", "end"], "x=1 y=two", "z=3"),
        ):
            self.assertIsInstance(env - names, Env)
            self.assertIsInstance(env.only(names), Env)
            self.assertEqual(str(env - names), less)
            self.assertEqual(str(env.only(names)), only)

    def test_less_and_only_pass_over_values_of_any_kind(self):
        env = Env({"x": 1, "name0": 2})
        for value in WRONG:
            for names in ([value], (value,), [value, value]):
                self.assertEqual(env - names, env)
                self.assertEqual(env.only(names), Env())
            self.assertEqual(env - [value, "x"], Env({"name0": 2}))
            self.assertEqual(env.only((value, "x")), Env({"x": 1}))

    def test_nothing_that_takes_part_changes(self):
        env, bindings, names = Env({"x": 1, "y": 2}), {"y": 3, "a": 4}, ["y", "q"]
        made = [env | bindings, bindings | env, env - names, env.only(names)]
        bindings["y"] = 9
        names.append("x")
        self.assertEqual([str(one) for one in made], ["a=4 x=1 y=3", "a=4 x=1 y=2", "x=1", "y=2"])
        self.assertEqual(env.listed(), [("x", 1), ("y", 2)])

    def test_random_environments(self):
        dice = random.Random(5)
        for _ in range(300):
            first, second = [
                {name: dice.choice([0, 1, "a"]) for name in dice.sample("abcdef", dice.randrange(7))} for _ in range(2)
            ]
            names = dice.choices("abcdefgh", k=dice.randrange(5))
            env = Env(first)
            both = {**first, **second}
            self.assertEqual((env | Env(second)).listed(), sorted(both.items()))
            self.assertEqual(dict((env - names).listed()), {name: first[name] for name in first if name not in names})
            self.assertEqual(dict(env.only(names).listed()), {name: first[name] for name in first if name in names})
            self.assertEqual(env == Env(second), first == second)
            self.assertEqual(env.within(Env(second)), set(first.items()) <= set(second.items()))
            self.assertEqual(env.within(env | second), all(second.get(name, first[name]) == first[name] for name in first))
            self.assertEqual([name in env for name in "abcdefgh"], [name in first for name in "abcdefgh"])


if __name__ == "__main__":
    unittest.main()
