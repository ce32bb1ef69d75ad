"""Writing the canonical text, keepings, and reading texts."""

import copy
import itertools
import unittest

from bindspan.checks import check, keepings
from bindspan.errors import BadLine, BadText, TooDeep, Unclosed
from bindspan.texts import parse, write
from tests.samples import FULL_PARTS, FULL_TEXT, KEPT, M_PARTS, M_TEXT, Maker, nested, nested_lines, roughened


def error_of(text):
    """The kind and the line of the error that parse raises, or None."""
    try:
        parse(text)
    except BadText as error:
        return (type(error), *vars(error).values())
    return None


def in_func(*lines):
    """A text in which the lines begin at line 2."""
    return "\n".join(["own func f", *lines, "end"])


def rows_in(*lines):
    """What parse makes of lines inside a function."""
    parts, _ = parse(in_func(*lines))
    return parts[0][3]


class WriteTest(unittest.TestCase):
    def test_the_module_of_the_document(self):
        self.assertEqual(write(M_PARTS), M_TEXT)

    def test_every_form(self):
        self.assertEqual(write(FULL_PARTS), FULL_TEXT)

    def test_without_parts_and_without_rows(self):
        self.assertEqual(write(()), "")
        self.assertEqual(write((("func", "f", "open", ()),)), "open func f\nend")
        self.assertEqual(write((("func", "f", "own", (("apart", ()),)),)), "own func f\n  apart\n  end\nend")

    def test_levels(self):
        lines = write((("func", "f", "own", nested(8)),)).split("\n")
        levels = [0, *range(1, 10), *range(8, -1, -1)]
        self.assertEqual([len(line) - len(line.lstrip(" ")) for line in lines], [2 * level for level in levels])
        self.assertEqual([line.strip(" ") for line in lines], nested_lines(8))

    def test_with_lists_in_the_order_of_declaration(self):
        rows = (("keep", "s", "g", ("z", "a", "m")), ("held", "s", (), (("take", "s", ("m", "z")),)))
        parts = (
            ("flag", "m", "on"), ("func", "g", "own", ()), ("name", "z", "b"), ("slot", "s", "own"),
            ("func", "f", "own", rows), ("name", "a", "b"),
        )
        before = copy.deepcopy(parts)
        lines = write(parts).split("\n")
        self.assertEqual(lines[6:10], ["  keep s g with m z a", "  held s", "  else", "    take s with m z"])
        self.assertEqual(parts, before)


class KeepingsTest(unittest.TestCase):
    def test_the_module_of_the_document(self):
        self.assertEqual(keepings(M_PARTS), ((9, "keep", "box", ("x",)),))

    def test_all_three_kinds_with_the_slot_that_they_fill(self):
        self.assertEqual(keepings(FULL_PARTS), (
            (22, "keep", "box", ()), (23, "keep", "chest", ("y", "lit")), (25, "take", "box", ()),
            (26, "take", "box", ("x",)), (27, "shift", "chest", ()), (28, "shift", "chest", ("dim",)),
        ))

    def test_none(self):
        self.assertEqual(keepings(()), ())
        self.assertEqual(keepings((("slot", "s", "own"), ("func", "f", "own", (("drop", "s"), ("run", "s"))))), ())

    def test_in_the_order_of_lines_with_lists_in_the_order_of_declaration(self):
        rows = (
            ("guard", (("take", "s", ("z", "m")),), (("shift", "s", "t", ("z", "m")),)),
            ("when", "m", (), (("take", "t", ()),)),
        )
        parts = (
            ("slot", "s", "own"), ("slot", "t", "own"), ("func", "f", "own", rows), ("flag", "m", "on"), ("name", "z", "b"),
        )
        before = copy.deepcopy(parts)
        self.assertEqual(
            keepings(parts),
            ((5, "take", "s", ("m", "z")), (7, "shift", "t", ("m", "z")), (11, "take", "t", ())),
        )
        self.assertEqual(parts, before)


class ParseTest(unittest.TestCase):
    def test_examples(self):
        self.assertEqual(parse("# a\n\nname  x = red"), ((("name", "x", "red"),), (3,)))
        self.assertEqual(error_of("own func f\n guard\n after"), (Unclosed, 2))

    def test_the_module_of_the_document(self):
        self.assertEqual(parse(M_TEXT), (M_PARTS, (1, 2, 3, 4, 6, 7, 8, 9)))

    def test_every_form(self):
        parts, lines = parse(FULL_TEXT)
        self.assertEqual(parts, FULL_PARTS)
        inner = ("end", "else", "after")
        wanted = [at for at, line in enumerate(FULL_TEXT.split("\n"), start=1) if line.strip(" ") not in inner]
        self.assertEqual(lines, tuple(wanted))

    def test_nothing_to_read(self):
        for text in ("", "\n", "   ", "\n\n  \n", "#", "# name x", "   #end\n##"):
            self.assertEqual(parse(text), ((), ()))

    def test_spaces_mean_nothing(self):
        text = "  own   func  f \n\n look    t   x\n         # end\n   apart \nend  \n  end"
        self.assertEqual(parse(text), ((("func", "f", "own", (("look", "t", "x"), ("apart", ()))),), (1, 3, 5)))

    def test_comments(self):
        self.assertEqual(parse("#\n #x = red\n# name y = b\nname x = red\n  # end"), ((("name", "x", "red"),), (4,)))
        self.assertEqual(error_of("name x = red # red"), (BadLine, 1))
        self.assertEqual(error_of("name x = red #"), (BadLine, 1))
        self.assertEqual(error_of("name x = #"), (BadLine, 1))

    def test_only_line_feeds_and_spaces_separate(self):
        for sign in ("\t", "\r", "\v", "\f", "\u00a0", "\u2003", "\u2028", "\x85", "\x1c", "\x00"):
            for text in (f"name{sign}x = red", f"{sign}name x = red", f"name x = red{sign}", f"name x ={sign}red", sign):
                self.assertEqual(error_of(text), (BadLine, 1), repr(text))
            self.assertEqual(error_of(f"name x = red\n{sign}# a"), (BadLine, 2))
            self.assertEqual(error_of(f"name x = red\nname y = red{sign}name z = red"), (BadLine, 2))
            self.assertEqual(parse(f"# a{sign}\n#{sign}"), ((), ()))

    def test_words_and_identifiers_at_the_limits(self):
        for word in ("a", "0", "a" * 12, "0" * 12, *KEPT):
            self.assertEqual(parse(f"name x = {word}")[0], (("name", "x", word),))
            self.assertEqual(rows_in(f"look {word} x"), (("look", word, "x"),))
            self.assertEqual(rows_in(f"bind x = {word}", "end"), (("bind", "x", ("word", word), ()),))
        for word in ("a" * 13, "0" * 13, "A", "a_", "a-b", "\u00e4", "\u0661", "'a'"):
            self.assertEqual(error_of(f"name x = {word}"), (BadLine, 1))
            self.assertEqual(error_of(in_func(f"look {word} x")), (BadLine, 2))
            self.assertEqual(error_of(in_func(f"bind x = {word}", "end")), (BadLine, 2))
        for ident in ("a", "a" * 12, "z0123456789z", "rows"):
            for line in self.everywhere(ident):
                self.assertIsNone(error_of(in_func(*line)), line)
        for ident in ("a" * 13, "0", "1a", "A", "a_", "\u00e4", *KEPT):
            for line in self.everywhere(ident):
                self.assertEqual(error_of(in_func(*line)), (BadLine, 2), line)
            for line in (f"name {ident} = a", f"flag {ident} = on", f"own slot {ident}", f"open slot {ident}", f"own func {ident}"):
                self.assertEqual(error_of(line), (BadLine, 1), line)

    def everywhere(self, ident):
        lines = [
            "look t {}", "call {}", "keep {} f", "keep s {}", "keep s f with {}", "keep s f with x {} y", "take {}",
            "take s with {}", "shift {} s", "shift s {}", "shift s t with x {}", "run {}", "drop {}",
        ]
        blocks = ["bind {} = a", "bind {} = of x", "bind x = of {}", "when {}", "held {}"]
        return [(line.format(ident),) for line in lines] + [(line.format(ident), "end") for line in blocks]

    def test_the_two_forms_of_bind(self):
        self.assertEqual(rows_in("bind x = of", "end"), (("bind", "x", ("word", "of"), ()),))
        self.assertEqual(rows_in("bind x = of y", "end"), (("bind", "x", ("of", "y"), ()),))
        self.assertEqual(rows_in("bind x = with", "end"), (("bind", "x", ("word", "with"), ()),))
        for line in ("bind x = of of", "bind x = of y z", "bind x = a b", "bind x of y", "bind x =", "bind x", "bind",
                     "bind x == a", "bind x = = a", "bind x a", "bind x = of 1", "bind = a", "bind x = 'of' y"):
            self.assertEqual(error_of(in_func(line, "end")), (BadLine, 2), line)

    def test_with_lists_stay_as_the_text_has_them(self):
        self.assertEqual(
            rows_in("keep s f with z a z", "take s with b", "shift s t with y x", "take s", "keep s f", "shift s t"),
            (("keep", "s", "f", ("z", "a", "z")), ("take", "s", ("b",)), ("shift", "s", "t", ("y", "x")),
             ("take", "s", ()), ("keep", "s", "f", ()), ("shift", "s", "t", ())),
        )

    def test_wrong_with_lists(self):
        for line in ("keep s f with", "take s with", "shift s t with", "keep s with x", "take with x", "shift s with x",
                     "keep s f x", "take s x", "keep s f width x", "take s with with x", "take s with x with y",
                     "drop s with x", "run s with x", "call f with x", "look t x with y", "take s with x,y"):
            self.assertEqual(error_of(in_func(line)), (BadLine, 2), line)

    def test_too_few_and_too_many_words(self):
        for line in ("look t x", "call f", "run s", "drop s", "fail"):
            words = line.split(" ")
            self.assertIsNone(error_of(in_func(line)))
            for many in range(1, len(words)):
                self.assertEqual(error_of(in_func(" ".join(words[:many]))), (BadLine, 2))
            self.assertEqual(error_of(in_func(line + " x")), (BadLine, 2))
        for line in ("apart", "guard", "when x", "held s"):
            self.assertIsNone(error_of(in_func(line, "end")))
            self.assertEqual(error_of(in_func(line + " x", "end")), (BadLine, 2))
        for line in ("when", "held", "keep", "keep s", "take", "shift", "shift s", "else x", "after x", "end x", "end f"):
            self.assertEqual(error_of(in_func("when x", line, "end")), (BadLine, 3), line)
        for line in ("name", "name x", "name x =", "name x red", "name x = red blue", "name = red", "name x := red", "flag",
                     "flag x", "flag x =", "flag x = on on", "open", "own", "open slot", "own slot s t", "open func",
                     "own func f g", "slot s", "func f", "open s", "own own slot s", "slot s open", "func f own"):
            self.assertEqual(error_of(line), (BadLine, 1), line)
            self.assertEqual(error_of(in_func(line)), (BadLine, 2), line)

    def test_defaults_of_flags(self):
        self.assertEqual(parse("flag x = on\nflag y = off")[0], (("flag", "x", "on"), ("flag", "y", "off")))
        for word in ("of", "0", "red", "ON", "open"):
            self.assertEqual(error_of(f"flag x = {word}"), (BadLine, 1))

    def test_wrong_first_words(self):
        for line in ("names x = a", "Name x = red", "public slot s", "xlook t x", "look: t x", "=", "x", "with x", "of x",
                     "on", "off", "rows", "word x red", "END", "elseif", "ident x red", "bound x y", "-- a", "// a", ";"):
            self.assertEqual(error_of(line), (BadLine, 1), line)
            self.assertEqual(error_of(in_func(line)), (BadLine, 2), line)

    def test_statements_outside_of_all_functions(self):
        lines = ("look t x", "call f", "keep s f", "take s", "shift s t", "run s", "drop s", "fail", "apart", "guard",
                 "when x", "held s", "bind x = a")
        for line in lines:
            self.assertEqual(error_of(line), (BadLine, 1), line)
            self.assertEqual(error_of("own func f\nend\n" + line), (BadLine, 3), line)

    def test_parts_inside_a_function(self):
        for line in ("name x = red", "flag x = on", "open slot s", "own slot s", "open func g", "own func g"):
            self.assertEqual(error_of(in_func(line)), (BadLine, 2), line)
            self.assertEqual(error_of(in_func("guard", "after", line, "end")), (BadLine, 4), line)
            self.assertIsNone(error_of(line + ("\nend" if "func" in line else "")))

    def test_end_where_nothing_is_open(self):
        self.assertEqual(error_of("end"), (BadLine, 1))
        self.assertEqual(error_of(in_func() + "\nend"), (BadLine, 3))
        self.assertEqual(error_of("name x = a\nend"), (BadLine, 2))
        self.assertEqual(error_of(in_func("apart", "end", "end")), (BadLine, 5))

    def test_else_and_after_belong_to_the_innermost_block(self):
        blocks = {"when x": "else", "held s": "else", "guard": "after", "apart": "", "bind x = a": ""}
        for (line, wanted), word in itertools.product(blocks.items(), ("else", "after")):
            good = None if word == wanted else (BadLine, 3)
            self.assertEqual(error_of(in_func(line, word, "end")), good, (line, word))
            for outer in blocks:
                inside = in_func(outer, line, word, "end", "end")
                self.assertEqual(error_of(inside), None if word == wanted else (BadLine, 4), inside)
                behind = in_func(outer, line, "end", word, "end")
                self.assertEqual(error_of(behind), None if word == blocks[outer] else (BadLine, 5), behind)
        for word in ("else", "after"):
            self.assertEqual(error_of(word), (BadLine, 1))
            self.assertEqual(error_of(in_func(word)), (BadLine, 2))
            self.assertEqual(error_of(in_func("apart", "end", word)), (BadLine, 4))

    def test_a_second_divider(self):
        for line, word in (("when x", "else"), ("held s", "else"), ("guard", "after")):
            self.assertEqual(error_of(in_func(line, word, word, "end")), (BadLine, 4))
            self.assertEqual(error_of(in_func(line, "fail", word, "fail", word, "end")), (BadLine, 6))
            self.assertEqual(error_of(in_func(line, word, line, word, "end", word, "end")), (BadLine, 7))

    def test_dividers_ahead_of_nothing(self):
        self.assertEqual(rows_in("when x", "else", "end"), (("when", "x", (), ()),))
        self.assertEqual(rows_in("held s", "fail", "else", "end"), (("held", "s", (("fail",),), ()),))
        self.assertEqual(rows_in("guard", "fail", "after", "", "# x", "end"), (("guard", (("fail",),), ()),))
        self.assertEqual(rows_in("guard", "after", "fail", "end"), (("guard", (), (("fail",),)),))
        self.assertEqual(parse(in_func("when x", "else", "end", "fail"))[1], (1, 2, 5))

    def test_the_first_error_from_the_first_line_to_the_last(self):
        self.assertEqual(error_of("own func f\n\nfail x\nend\nend"), (BadLine, 3))
        self.assertEqual(error_of("own func f\nguard\nend 1"), (BadLine, 3))
        self.assertEqual(error_of("# x\nfail\nown func f"), (BadLine, 2))
        deep = nested_lines(9)
        self.assertEqual(error_of("\n".join(["name x", *deep])), (BadLine, 1))
        self.assertEqual(error_of("\n".join([*deep, "name x"])), (TooDeep, 11))
        self.assertEqual(error_of("\n".join(deep[:11])), (TooDeep, 11))

    def test_the_errors_of_the_second_step_are_not_raised(self):
        text = "name x = a\nname x = b\n" + in_func("call f", "look t n", "take s with x x", "bind x = of x", "end")
        self.assertEqual(parse(text)[1], (1, 2, 3, 4, 5, 6, 7))


class DeepTextTest(unittest.TestCase):
    def test_inside_8_blocks(self):
        self.assertEqual(parse("\n".join(nested_lines(8)))[0], (("func", "f", "own", nested(8)),))
        lines = nested_lines(8, "guard\nafter\nend")
        self.assertEqual(parse("\n".join(lines))[0], (("func", "f", "own", nested(8, (("guard", (), ()),))),))

    def test_inside_9_blocks(self):
        for inner in ("fail", "look t x", "take s with x", "apart\nend", "when x\nelse\nend", "bind x = of y\nend"):
            self.assertEqual(error_of("\n".join(nested_lines(9, inner))), (TooDeep, 11), inner)
        self.assertEqual(error_of("\n".join(["# a", "", *nested_lines(9)])), (TooDeep, 13))
        self.assertIsNone(error_of("\n".join(nested_lines(9, ""))))

    def test_behind_a_divider(self):
        lines = nested_lines(8, "when x\nelse\nfail\nend")
        self.assertEqual(error_of("\n".join(lines)), (TooDeep, 12))
        lines = nested_lines(7, "when x\nelse\nfail\nend")
        self.assertIsNone(error_of("\n".join(lines)))

    def test_a_deep_line_of_none_of_the_forms(self):
        for inner in ("fail x", "look", "name x = a", "own slot s", "after", "else", "end x", "\t"):
            self.assertEqual(error_of("\n".join(nested_lines(9, inner))), (BadLine, 11), inner)

    def test_far_too_deep(self):
        self.assertEqual(error_of("\n".join(nested_lines(20000))), (TooDeep, 11))

    def test_blocks_that_ended_do_not_count(self):
        lines = ["own func f", *["apart", "end"] * 20, "end", *nested_lines(8)]
        self.assertIsNone(error_of("\n".join(lines)))


class UnclosedTest(unittest.TestCase):
    def test_the_innermost_function_or_block(self):
        self.assertEqual(error_of("own func f"), (Unclosed, 1))
        self.assertEqual(error_of("name x = a\n\nopen func f\nfail\n"), (Unclosed, 3))
        self.assertEqual(error_of("own func f\napart\nend"), (Unclosed, 1))
        self.assertEqual(error_of("own func f\napart\nwhen x\nelse\nheld s\nend"), (Unclosed, 3))
        self.assertEqual(error_of("own func f\nend\nown func g\n# end"), (Unclosed, 3))


class RoundTripTest(unittest.TestCase):
    def test_modules_texts_keepings_and_lines(self):
        for seed in range(300):
            made = Maker(seed)
            parts = check(made.parts)
            self.assertEqual(write(made.parts), made.text)
            self.assertEqual(write(parts), made.text)
            self.assertEqual(parse(made.text), (parts, tuple(made.begun)))
            self.assertEqual(keepings(made.parts), tuple(made.kept))
            self.assertEqual(check(parts), parts)

    def test_texts_with_other_spaces_and_comments(self):
        for seed in range(100):
            made = Maker(seed)
            text, numbers = roughened(made.text, seed)
            self.assertEqual(parse(text), (check(made.parts), tuple([numbers[at - 1] for at in made.begun])))

    def test_the_maker_makes_enough(self):
        texts = "\n".join([Maker(seed).text for seed in range(300)])
        for word in ("look", "bind", "call", "keep", "take", "shift", "run", "drop", "apart", "when", "held", "fail", "guard",
                     "else", "after"):
            self.assertGreater(texts.count(f"  {word}"), 20, word)


if __name__ == "__main__":
    unittest.main()
