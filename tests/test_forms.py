"""The first step of the checks: the form of parts and statements."""

import copy
import unittest

from bindspan.checks import check
from bindspan.errors import BadModule, BadTree
from tests.samples import FULL_PARTS, KEPT, M_PARTS, WRONG, nested

HEAD = (("name", "x", "red"), ("flag", "lit", "off"), ("slot", "box", "open"), ("slot", "chest", "own"))


def place_of(parts):
    """The place of the BadTree that check raises, or None if the parts pass its first step."""
    try:
        check(parts)
    except BadTree as error:
        return error.place
    except BadModule:
        return None
    return None


def func(*rows):
    return ("func", "f", "open", rows)


def paths(value, path=()):
    """The paths to all places inside nested tuples, that of the whole included."""
    found = [path]
    if isinstance(value, tuple):
        for at, item in enumerate(value):
            found.extend(paths(item, (*path, at)))
    return found


def at_path(value, path):
    for at in path:
        value = value[at]
    return value


def replaced(value, path, new):
    if not path:
        return new
    at = path[0]
    return (*value[:at], replaced(value[at], path[1:], new), *value[at + 1:])


class WellFormedTest(unittest.TestCase):
    def test_good_parts(self):
        for parts in ((), M_PARTS, FULL_PARTS, HEAD, (func(),), (("func", "f", "own", ()),)):
            self.assertIsNone(place_of(parts))

    def test_parts_that_are_no_tuple(self):
        for parts in [*WRONG, list(M_PARTS), {}, "", set(), frozenset(), iter(())]:
            if not isinstance(parts, tuple):
                self.assertEqual(place_of(parts), -1)

    def test_the_first_part_that_is_not_well_formed(self):
        for value in WRONG:
            self.assertEqual(place_of((value,)), 0)
            self.assertEqual(place_of((*HEAD, value)), 4)
            self.assertEqual(place_of((*HEAD[:2], value, None, *HEAD[2:])), 2)
            self.assertEqual(place_of((*HEAD[:1], func(("bind", "x", ("of", "x"), (value,))), value)), 1)

    def test_wrong_values_at_every_place(self):
        for parts in (M_PARTS, FULL_PARTS):
            for path in paths(parts):
                for value in WRONG:
                    if path:
                        self.assertEqual(place_of(replaced(parts, path, value)), path[0], (path, at_path(parts, path)))

    def test_lists_and_dicts_in_place_of_tuples(self):
        for path in paths(FULL_PARTS):
            value = at_path(FULL_PARTS, path)
            if isinstance(value, tuple):
                wanted = path[0] if path else -1
                self.assertEqual(place_of(replaced(FULL_PARTS, path, list(value))), wanted, path)
                self.assertEqual(place_of(replaced(FULL_PARTS, path, dict(enumerate(value)))), wanted, path)
                self.assertEqual(place_of(replaced(FULL_PARTS, path, "")), wanted, path)

    def test_an_item_too_many_or_too_few(self):
        for path in paths(FULL_PARTS):
            value = at_path(FULL_PARTS, path)
            # Parts, statements and the third item of a bind begin with their kind; rows and with lists do not.
            if isinstance(value, tuple) and value and isinstance(value[0], str) and not self.is_captured(path):
                for changed in ((*value, "x"), (*value, ()), value[:-1], value[1:], (*value, None)):
                    self.assertEqual(place_of(replaced(FULL_PARTS, path, changed)), path[0], (path, changed))

    def is_captured(self, path):
        above = at_path(FULL_PARTS, path[:-1])
        return above[:1] in (("keep",), ("take",), ("shift",)) and path[-1] == len(above) - 1

    def test_an_empty_tuple(self):
        for path in paths(FULL_PARTS):
            value = at_path(FULL_PARTS, path)
            is_rows = isinstance(value, tuple) and not (value and isinstance(value[0], str))
            good = is_rows or self.is_captured(path)
            if path:
                self.assertEqual(place_of(replaced(FULL_PARTS, path, ())), None if good else path[0], path)


class WordsTest(unittest.TestCase):
    def test_words_of_every_length(self):
        for word in ("a", "0", "a" * 12, "0" * 12, "z9", *KEPT):
            self.assertIsNone(place_of((("name", "x", word),)))
            self.assertIsNone(place_of((HEAD[0], func(("look", word, "x")))))
            self.assertIsNone(place_of((HEAD[0], func(("bind", "x", ("word", word), ())))))
        for word in ("", "a" * 13, "0" * 13, "A", "a b", "a\n", "a_", "a-", "\u00e4", "\u0660", "#"):
            self.assertEqual(place_of((("name", "x", word),)), 0)
            self.assertEqual(place_of((HEAD[0], func(("look", word, "x")))), 1)
            self.assertEqual(place_of((HEAD[0], func(("bind", "x", ("word", word), ())))), 1)

    def test_identifiers_at_every_place(self):
        def everywhere(ident):
            return [
                ("name", ident, "red"), ("flag", ident, "on"), ("slot", ident, "own"), ("func", ident, "own", ()),
                func(("look", "t", ident)), func(("bind", ident, ("word", "a"), ())),
                func(("bind", "x", ("of", ident), ())), func(("call", ident)), func(("keep", ident, "f", ())),
                func(("keep", "box", ident, ())), func(("keep", "box", "f", ("x", ident))), func(("take", ident, ())),
                func(("take", "box", (ident,))), func(("shift", ident, "box", ())), func(("shift", "box", ident, ())),
                func(("shift", "box", "chest", (ident, "x"))), func(("run", ident)), func(("drop", ident)),
                func(("when", ident, (), ())), func(("held", ident, (), ())),
            ]

        for ident in ("a", "a" * 12, "z0123456789z", "a1", "names"):
            for part in everywhere(ident):
                self.assertIsNone(place_of((*HEAD, part)), part)
        for ident in ("", "a" * 13, "1", "1a", "A", "aB", "a b", "a\n", "_a", "\u00e4", *KEPT):
            for part in everywhere(ident):
                self.assertEqual(place_of((*HEAD, part)), 4, part)

    def test_choices(self):
        for kind, good in (("flag", ("on", "off")), ("slot", ("open", "own"))):
            for word in ("on", "off", "open", "own", "x", "ON", "", "1"):
                self.assertEqual(place_of(((kind, "x", word),)), None if word in good else 0)
        for word in ("on", "off", "open", "own", "x", "Open"):
            self.assertEqual(place_of((("func", "x", word, ()),)), None if word in ("open", "own") else 0)

    def test_any_word_may_be_the_word_of_a_bind_in_this_step(self):
        self.assertIsNone(place_of((HEAD[1], func(("bind", "lit", ("word", "blue"), ())))))

    def test_first_words_that_do_not_exist(self):
        for first in ("", "names", "Name", "rows", "else", "after", "end", "with", "of", "on", "off", "open", "own", "bound"):
            self.assertEqual(place_of(((first, "x", "red"),)), 0)
            self.assertEqual(place_of(((first, "x", "own", ()),)), 0)
            self.assertEqual(place_of((func((first,)),)), 0)
            self.assertEqual(place_of((func((first, "x")),)), 0)

    def test_parts_are_no_statements_and_statements_no_parts(self):
        for part in HEAD:
            self.assertEqual(place_of((func(part),)), 0)
        self.assertEqual(place_of((func(func()),)), 0)
        for statement in FULL_PARTS[-1][3]:
            self.assertEqual(place_of((statement,)), 0)

    def test_the_third_item_of_a_bind(self):
        for worth in (("word", "a", "b"), ("word",), ("of",), ("of", "x", "y"), ("is", "a"), ("", "a"), ("a", "word"), "word"):
            self.assertEqual(place_of((HEAD[0], func(("bind", "x", worth, ())))), 1)


class DepthTest(unittest.TestCase):
    def test_inside_8_and_9_blocks(self):
        for kind in ("apart", "guard"):
            self.assertIsNone(place_of((*HEAD, func(*nested(8, kind=kind)))))
            self.assertEqual(place_of((*HEAD, func(*nested(9, kind=kind)))), 4)

    def test_a_block_without_rows_inside_8_and_9_blocks(self):
        self.assertIsNone(place_of((func(*nested(8, (("apart", ()),))),)))
        self.assertEqual(place_of((func(*nested(9, (("apart", ()),))),)), 0)

    def test_every_block_counts_in_each_of_its_rows(self):
        inner = (("fail",),)
        blocks = [
            lambda rows: ("bind", "x", ("of", "x"), rows), lambda rows: ("apart", rows),
            lambda rows: ("when", "lit", rows, ()), lambda rows: ("when", "lit", (), rows),
            lambda rows: ("held", "box", rows, ()), lambda rows: ("held", "box", (), rows),
            lambda rows: ("guard", rows, ()), lambda rows: ("guard", (), rows),
        ]
        for block in blocks:
            self.assertIsNone(place_of((*HEAD, func(*nested(7, (block(inner),))))))
            self.assertEqual(place_of((*HEAD, func(*nested(8, (block(inner),))))), 4)

    def test_far_too_deep(self):
        self.assertEqual(place_of((*HEAD, func(*nested(20000)))), 4)
        deep = ()
        for _ in range(20000):
            deep = (deep,)
        self.assertEqual(place_of((*HEAD, func(deep))), 4)
        self.assertEqual(place_of((deep,)), 0)

    def test_depth_and_form_of_an_earlier_part(self):
        self.assertEqual(place_of((func(*nested(9)), None)), 0)
        self.assertEqual(place_of((None, func(*nested(9)))), 0)


class StepsTest(unittest.TestCase):
    def test_the_form_comes_before_the_second_step(self):
        twice = (("name", "x", "red"), ("name", "x", "red"))
        self.assertEqual(place_of((*twice, func(("look", "t", "nowhere")), ("slot", "box", "on"))), 3)

    def test_what_is_passed_is_not_changed(self):
        for parts in (M_PARTS, FULL_PARTS):
            before = copy.deepcopy(parts)
            check(parts)
            self.assertEqual(parts, before)
        inner = [("fail",)]
        wrong = (func(("apart", inner)), {"x": inner})
        self.assertEqual(place_of(wrong), 0)
        self.assertEqual(wrong, (func(("apart", [("fail",)])), {"x": [("fail",)]}))


if __name__ == "__main__":
    unittest.main()
