"""The second step of the checks: identifiers, words of flags, with lists and the order rule."""

import copy
import itertools
import unittest

from bindspan.checks import check
from bindspan.errors import BadModule, BadWord, Duplicate, OutOfOrder, Repeated, Unknown
from tests.samples import FULL_PARTS, M_PARTS

# x and y are names, lit and dim flags, high and low slots, up, here and down functions.
NAMES = (("name", "x", "a"), ("name", "y", "b"), ("flag", "lit", "on"), ("flag", "dim", "off"))
UP, DOWN = ("func", "up", "own", ()), ("func", "down", "own", ())
HIGH, LOW = ("slot", "high", "own"), ("slot", "low", "own")


def module(*rows):
    """Parts in which the rows begin at line 9."""
    return (*NAMES, UP, HIGH, ("func", "here", "open", rows), LOW, DOWN)


def error_of(parts):
    """The kind and the fields of the error that check raises, or None."""
    try:
        check(parts)
    except BadModule as error:
        return (type(error), *vars(error).values())
    return None


class NamesTest(unittest.TestCase):
    def refuse(self, kind, ident, *rows, line=9):
        self.assertEqual(error_of(module(*rows)), (kind, line, ident), rows)

    def accept(self, *rows):
        self.assertIsNone(error_of(module(*rows)), rows)

    def test_good_modules(self):
        for parts in ((), M_PARTS, FULL_PARTS, module()):
            self.assertEqual(check(parts), parts)


class DuplicateTest(unittest.TestCase):
    def test_example(self):
        self.assertEqual(error_of((("name", "x", "red"), ("name", "x", "blue"))), (Duplicate, 2, "x"))

    def test_all_parts_share_one_space(self):
        made = [("name", "x", "red"), ("flag", "x", "on"), ("slot", "x", "own"), ("func", "x", "own", ())]
        for first, second in itertools.product(made, made):
            line = 3 if first[0] == "func" else 2
            self.assertEqual(error_of((first, second)), (Duplicate, line, "x"))

    def test_the_first_part_with_an_identifier_of_an_earlier_one(self):
        rows = (("when", "lit", (("fail",),), (("fail",),)), ("fail",))
        parts = (("flag", "lit", "on"), ("func", "f", "own", rows), ("slot", "s", "own"), ("slot", "s", "open"))
        self.assertEqual(error_of((*parts, ("name", "lit", "a"))), (Duplicate, 11, "s"))
        self.assertEqual(error_of((*parts[:3], ("name", "lit", "a"), parts[3])), (Duplicate, 11, "lit"))
        self.assertEqual(error_of((*parts[:3], ("name", "f", "a"))), (Duplicate, 11, "f"))

    def test_it_comes_before_the_errors_of_all_lines(self):
        wrong = (
            ("look", "t", "nowhere"), ("bind", "lit", ("word", "a"), ()), ("take", "low", ("x", "x")), ("call", "down"),
        )
        for row in wrong:
            self.assertEqual(error_of((*module(row), ("name", "x", "b"))), (Duplicate, 14 + (row[0] == "bind"), "x"))


class UnknownTest(NamesTest):
    KINDS = {
        "x": "name", "y": "name", "lit": "flag", "dim": "flag", "high": "slot", "low": "slot",
        "up": "func", "here": "func", "down": "func", "nowhere": "",
    }

    def test_the_right_kind_at_every_place(self):
        places = [
            (lambda i: ("look", "t", i), ["name"]), (lambda i: ("bind", i, ("of", i), ()), ["name", "flag"]),
            (lambda i: ("bind", "x", ("of", i), ()), ["name"]), (lambda i: ("bind", "lit", ("of", i), ()), ["flag"]),
            (lambda i: ("bind", i, ("word", "on"), ()), ["name", "flag"]), (lambda i: ("call", i), ["func"]),
            (lambda i: ("keep", i, "up", ()), ["slot"]), (lambda i: ("keep", "low", i, ()), ["func"]),
            (lambda i: ("keep", "low", "up", (i,)), ["name", "flag"]), (lambda i: ("take", i, ()), ["slot"]),
            (lambda i: ("take", "low", (i,)), ["name", "flag"]), (lambda i: ("shift", i, "low", ()), ["slot"]),
            (lambda i: ("shift", "high", i, ()), ["slot"]),
            (lambda i: ("shift", "high", "low", (i,)), ["name", "flag"]), (lambda i: ("run", i), ["slot"]),
            (lambda i: ("drop", i), ["slot"]), (lambda i: ("when", i, (), ()), ["flag"]),
            (lambda i: ("held", i, (), ()), ["slot"]),
        ]
        for make, kinds in places:
            for ident, kind in self.KINDS.items():
                error = error_of(module(make(ident)))
                if kind in kinds:
                    self.assertTrue(error is None or error[0] is OutOfOrder, (make(ident), error))
                else:
                    self.assertEqual(error, (Unknown, 9, ident), make(ident))

    def test_declared_anywhere_in_the_module(self):
        below = (("func", "f", "own", (("look", "t", "z"), ("drop", "s"), ("bind", "g", ("word", "on"), ()))),
                 ("slot", "s", "own"), ("name", "z", "a"), ("flag", "g", "on"))
        self.assertIsNone(error_of(below))

    def test_the_identifiers_are_checked_in_the_order_of_the_tuple(self):
        self.refuse(Unknown, "n1", ("bind", "n1", ("of", "n2"), ()))
        self.refuse(Unknown, "n2", ("bind", "x", ("of", "n2"), ()))
        self.refuse(Unknown, "n1", ("keep", "n1", "n2", ("n3", "n4")))
        self.refuse(Unknown, "n2", ("keep", "low", "n2", ("n3", "n4")))
        self.refuse(Unknown, "n3", ("keep", "low", "up", ("x", "n3", "n4")))
        self.refuse(Unknown, "n1", ("shift", "n1", "n2", ("n3",)))
        self.refuse(Unknown, "n2", ("shift", "high", "n2", ("n3",)))
        self.refuse(Unknown, "n3", ("shift", "high", "low", ("lit", "n3", "n4")))
        self.refuse(Unknown, "n1", ("take", "n1", ("n2",)))

    def test_tags_and_words_are_not_checked(self):
        self.accept(("look", "nowhere", "x"))
        self.accept(("bind", "x", ("word", "nowhere"), ()))

    def test_lines_in_ascending_order(self):
        self.refuse(Unknown, "n1", ("apart", (("guard", (), (("call", "n1"),)), ("call", "n2"))), ("call", "n3"), line=12)
        self.refuse(Unknown, "n1", ("when", "n1", (("call", "n2"),), ()))
        self.refuse(Unknown, "n2", ("when", "lit", (("call", "n2"),), (("call", "n3"),)), ("call", "n4"), line=10)
        self.refuse(Unknown, "n3", ("when", "lit", (("call", "up"),), (("call", "n3"),)), ("call", "n4"), line=12)
        self.refuse(Unknown, "n4", ("when", "lit", (), (("call", "up"),)), ("call", "n4"), line=13)
        self.refuse(Unknown, "n4", ("held", "low", (("fail",),), ()), ("guard", (), ()), ("call", "n4"), line=14)
        first = ("func", "first", "own", (("look", "t", "n1"),))
        self.assertEqual(error_of((first, *module(("call", "n2")))), (Unknown, 2, "n1"))


class BadWordTest(NamesTest):
    def test_a_flag_is_on_or_off(self):
        for word in ("on", "off"):
            self.accept(("bind", "lit", ("word", word), ()))
        for word in ("of", "0", "a", "onn", "lit"):
            self.refuse(BadWord, word, ("bind", "lit", ("word", word), ()))
            self.accept(("bind", "x", ("word", word), ()))
        self.accept(("bind", "x", ("word", "on"), ()))

    def test_with_its_line_and_ahead_of_later_lines(self):
        row = ("bind", "dim", ("word", "a"), (("call", "n1"),))
        self.refuse(BadWord, "a", ("fail",), row, ("call", "n2"), line=10)
        self.refuse(Unknown, "n0", ("call", "n0"), row)


class RepeatedTest(NamesTest):
    def test_the_first_item_that_is_equal_to_an_earlier_one(self):
        for head in (("keep", "low", "up"), ("take", "low"), ("shift", "high", "low")):
            self.refuse(Repeated, "x", (*head, ("x", "x")))
            self.refuse(Repeated, "y", (*head, ("x", "y", "y", "x")))
            self.refuse(Repeated, "x", (*head, ("lit", "x", "y", "x", "y", "lit")))
            self.refuse(Repeated, "lit", (*head, ("lit", "x", "lit", "x")))
            self.accept((*head, ("dim", "y", "lit", "x")))

    def test_unknown_comes_first(self):
        self.refuse(Unknown, "n1", ("take", "low", ("x", "x", "n1")))
        self.refuse(Unknown, "n1", ("take", "low", ("n1", "n1")))

    def test_the_same_identifier_in_two_with_lists(self):
        self.accept(("take", "low", ("x",)), ("take", "low", ("x",)))


class OrderTest(NamesTest):
    def test_call(self):
        self.accept(("call", "up"))
        self.refuse(OutOfOrder, "here", ("call", "here"))
        self.refuse(OutOfOrder, "down", ("call", "down"))

    def test_run(self):
        self.accept(("run", "high"))
        self.refuse(OutOfOrder, "low", ("run", "low"))

    def test_inside_blocks(self):
        self.refuse(OutOfOrder, "here", ("apart", (("guard", (("fail",),), (("call", "here"),)),)), line=13)
        self.refuse(OutOfOrder, "low", ("held", "low", (), (("run", "low"),)), line=11)

    def test_keep(self):
        self.accept(("keep", "high", "up", ()), ("keep", "low", "up", ("x",)))
        # A keep may name a function that stands below its own, or its own: only the slot counts.
        self.accept(("keep", "low", "here", ()))
        self.refuse(OutOfOrder, "here", ("keep", "high", "here", ()))
        self.refuse(OutOfOrder, "down", ("keep", "low", "down", ()))
        self.refuse(OutOfOrder, "down", ("keep", "high", "down", ("x",)))
        parts = (("func", "f", "own", (("keep", "s", "g", ()), ("keep", "s", "f", ()))), ("func", "g", "own", ()), ("slot", "s", "own"))
        self.assertIsNone(error_of(parts))

    def test_shift(self):
        self.accept(("shift", "high", "low", ("x",)))
        self.refuse(OutOfOrder, "low", ("shift", "low", "high", ()))
        self.refuse(OutOfOrder, "low", ("shift", "low", "low", ()))
        self.refuse(OutOfOrder, "high", ("shift", "high", "high", ("x",)))
        parts = (("func", "f", "own", (("shift", "s", "t", ()),)), ("slot", "s", "own"), ("slot", "t", "own"))
        self.assertIsNone(error_of(parts))

    def test_take_drop_and_held_may_name_a_slot_below(self):
        self.accept(("take", "low", ("y",)), ("drop", "low"), ("held", "low", (("drop", "low"),), ()))

    def test_names_and_flags_may_stand_anywhere(self):
        parts = (("func", "f", "own", (("when", "g", (("look", "t", "z"),), ()),)), ("flag", "g", "on"), ("name", "z", "a"))
        self.assertIsNone(error_of(parts))

    def test_the_other_rules_come_first(self):
        self.refuse(Unknown, "n1", ("keep", "high", "down", ("n1",)))
        self.refuse(Repeated, "x", ("keep", "high", "down", ("x", "x")))
        self.refuse(Repeated, "x", ("shift", "low", "high", ("x", "x")))
        self.refuse(OutOfOrder, "down", ("call", "down"), ("call", "n1"))
        self.refuse(Unknown, "n1", ("call", "n1"), ("call", "down"))


class WithListTest(unittest.TestCase):
    def test_check_returns_with_lists_in_the_order_of_declaration(self):
        for order in itertools.permutations(("x", "y", "lit", "dim"), 3):
            wanted = tuple(ident for ident in ("x", "y", "lit", "dim") if ident in order)
            rows = (("keep", "low", "up", order), ("apart", (("take", "low", order),)),
                    ("when", "lit", (), (("shift", "high", "low", order),)))
            sorted_rows = (("keep", "low", "up", wanted), ("apart", (("take", "low", wanted),)),
                           ("when", "lit", (), (("shift", "high", "low", wanted),)))
            parts = module(*rows)
            before = copy.deepcopy(parts)
            self.assertEqual(check(parts), module(*sorted_rows))
            self.assertEqual(parts, before)

    def test_the_order_is_that_of_the_declarations_below_too(self):
        parts = (("flag", "z", "on"), ("func", "f", "own", (("take", "s", ("a", "m", "z")),)), ("name", "m", "a"),
                 ("slot", "s", "own"), ("flag", "a", "on"))
        self.assertEqual(check(parts)[1][3], (("take", "s", ("z", "m", "a")),))

    def test_nothing_else_changes(self):
        self.assertEqual(check(FULL_PARTS), FULL_PARTS)
        self.assertEqual(check(check(module(("take", "low", ("dim", "x"))))), module(("take", "low", ("x", "dim"))))


if __name__ == "__main__":
    unittest.main()
