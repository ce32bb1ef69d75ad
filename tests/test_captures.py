import itertools
import random
import unittest

from bindspan.captures import Captures, candidates
from bindspan.errors import BadPair, TooMany
from tests.samples import KEPT, WRONG, Odd, Spiteful

HIGHEST = 10 ** 60 - 1
PAIRS = [(0, "x"), (0, "y"), (1, "x"), (10, "a"), (2, "b"), (HIGHEST, "x")]


def raised(action):
    """The value of the BadPair that the action raises."""
    try:
        action()
    except BadPair as error:
        return error.pair
    raise AssertionError("no BadPair")


class PairsTest(unittest.TestCase):
    def test_example(self):
        self.assertEqual(Captures([(1, "x"), (0, "y"), (1, "x")]).pairs, ((0, "y"), (1, "x")))

    def test_pairs_is_an_ascending_tuple_by_number_then_identifier(self):
        made = Captures(((10, "a"), (2, "b"), (2, "a1"), (2, "a"), (0, "z")))
        self.assertEqual(made.pairs, ((0, "z"), (2, "a"), (2, "a1"), (2, "b"), (10, "a")))
        self.assertIs(type(made.pairs), tuple)
        self.assertEqual(Captures().pairs, ())
        self.assertEqual(Captures(pairs=[(3, "c")]).pairs, ((3, "c"),))

    def test_of(self):
        self.assertEqual(Captures.of().pairs, ())
        self.assertEqual(Captures.of((1, "x"), (0, "y"), (1, "x")).pairs, ((0, "y"), (1, "x")))
        self.assertIsInstance(Captures.of((1, "x")), Captures)

    def test_numbers_at_the_limits(self):
        self.assertEqual(Captures([(HIGHEST, "x"), (0, "x")]).pairs, ((0, "x"), (HIGHEST, "x")))
        for number in (-1, 10 ** 60, 10 ** 60 + 1, 10 ** 5000):
            self.assertEqual(raised(lambda: Captures([(number, "x")])), (number, "x"))

    def test_identifiers_at_the_limits(self):
        for ident in ("a", "z", "a" * 12, "a0123456789z", "open1", "names"):
            self.assertEqual(Captures([(0, ident)]).pairs, ((0, ident),))
        for ident in ("", "a" * 13, "0a", "9", "A", "a-b", "a b", "\u00e9", "a\n", *KEPT):
            self.assertEqual(raised(lambda: Captures([(0, ident)])), (0, ident))

    def test_true_and_false_are_not_integers(self):
        for number in (True, False):
            self.assertIs(raised(lambda: Captures([(0, "y"), (number, "x")]))[0], number)

    def test_no_pairs(self):
        wrong = [value for value in WRONG] + [(), (0,), (0, "x", "y"), [0, "x"], "0x", ("x", 0), {0: "x"}, {(0, "x")}]
        for value in wrong:
            self.assertIs(raised(lambda: Captures([(0, "x"), value, None])), value)
            self.assertIs(raised(lambda: Captures((value, (0, "x")))), value)

    def test_wrong_values_inside_a_pair(self):
        for value in WRONG:
            if not isinstance(value, int) or isinstance(value, bool) or not 0 <= value <= HIGHEST:
                pair = (value, "x")
                self.assertIs(raised(lambda: Captures([pair])), pair)
            other = (0, value)
            self.assertIs(raised(lambda: Captures([other])), other)

    def test_the_first_item_in_the_order_that_was_passed(self):
        for items in itertools.permutations([(5, "x"), "b", (-1, "a"), None]):
            wanted = next(item for item in items if item != (5, "x"))
            self.assertIs(raised(lambda: Captures(items)), wanted)
            self.assertIs(raised(lambda: Captures(list(items))), wanted)
            self.assertIs(raised(lambda: Captures.of(*items)), wanted)

    def test_lists_that_are_passed_stay_and_have_no_later_effect(self):
        passed = [(1, "x"), (0, "y"), (1, "x")]
        made = Captures(passed)
        self.assertEqual(passed, [(1, "x"), (0, "y"), (1, "x")])
        passed.append((2, "z"))
        passed[0] = None
        self.assertEqual(made.pairs, ((0, "y"), (1, "x")))
        other = [(3, "c"), (1, "x")]
        joined = made | other
        self.assertEqual(other, [(3, "c"), (1, "x")])
        other.clear()
        self.assertEqual(joined.pairs, ((0, "y"), (1, "x"), (3, "c")))


class CollectionTest(unittest.TestCase):
    def test_len_bool_and_iteration(self):
        made = Captures(PAIRS + PAIRS)
        self.assertEqual(len(made), 6)
        self.assertIs(bool(made), True)
        self.assertEqual(list(made), sorted(PAIRS))
        self.assertEqual([pair for pair in made], list(made))
        self.assertEqual((len(Captures()), bool(Captures()), list(Captures())), (0, False, []))
        self.assertIs(bool(Captures([(0, "x")])), True)

    def test_at(self):
        made = Captures([(1, "y"), (1, "x"), (0, "z"), (11, "w"), (1, "a")])
        self.assertEqual(made.at(1), ("a", "x", "y"))
        self.assertEqual(made.at(0), ("z",))
        self.assertEqual(made.at(2), ())
        self.assertEqual(made.at(11), ("w",))
        self.assertEqual(Captures().at(0), ())

    def test_in(self):
        made = Captures([(1, "x"), (0, "y")])
        self.assertIn((1, "x"), made)
        self.assertIn((0, "y"), made)
        self.assertIn((1.0, "x"), made)
        self.assertIn((True, "x"), made)
        self.assertIn(Odd(), made)
        for value in (None, (0, "x"), (1, "x", 0), [1, "x"], {}, {1: "x"}, "x", "1:x", 1, (), [], (1, ["x"]), made, len):
            self.assertNotIn(value, made)
        self.assertNotIn(Odd(), Captures())
        self.assertNotIn((1, "x"), Captures())

    def test_equality(self):
        made = Captures([(1, "x"), (0, "y")])
        self.assertIs(made == Captures([(0, "y"), (1, "x"), (0, "y")]), True)
        self.assertIs(made != Captures([(0, "y"), (1, "x"), (0, "y")]), False)
        self.assertIs(Captures() == Captures([]), True)
        others = [Captures([(1, "x")]), Captures(), Captures([(1, "x"), (0, "z")]), Captures([(1, "x"), (0, "y"), (2, "y")])]
        for other in (*others, made.pairs, list(made.pairs), "0:y 1:x", None, 2, {}, Spiteful()):
            self.assertIs(made == other, False)
            self.assertIs(made != other, True)

    def test_within(self):
        small, large = Captures([(1, "x")]), Captures([(1, "x"), (0, "y")])
        self.assertIs(small.within(large), True)
        self.assertIs(large.within(small), False)
        self.assertIs(large.within(Captures(large.pairs)), True)
        self.assertIs(Captures().within(Captures()), True)
        self.assertIs(Captures().within(small), True)
        self.assertIs(small.within(Captures()), False)
        self.assertIs(small.within(Captures([(0, "x"), (1, "y")])), False)


class OperatorTest(unittest.TestCase):
    def check_all(self, left, right, first, second):
        wanted = {
            "|": set(first) | set(second), "&": set(first) & set(second),
            "-": set(first) - set(second), "^": set(first) ^ set(second),
        }
        found = {"|": left | right, "&": left & right, "-": left - right, "^": left ^ right}
        for sign, result in found.items():
            self.assertIs(type(result), Captures)
            self.assertEqual(result.pairs, tuple(sorted(wanted[sign])), sign)
            self.assertIsNot(result, left)
            self.assertIsNot(result, right)

    def test_captures_lists_and_tuples_on_either_side(self):
        dice = random.Random(5)
        for _ in range(200):
            first = dice.choices(PAIRS, k=dice.randrange(8))
            second = dice.choices(PAIRS, k=dice.randrange(8))
            one, other = Captures(first), Captures(second)
            self.check_all(one, other, first, second)
            self.check_all(one, list(second), first, second)
            self.check_all(one, tuple(second), first, second)
            self.check_all(list(first), other, first, second)
            self.check_all(tuple(first), other, first, second)
            self.assertEqual((one, other), (Captures(first), Captures(second)))

    def test_example(self):
        self.assertEqual(str([(0, "x"), (3, "y")] - Captures.of((0, "x"), (1, "x"))), "3:y")

    def test_with_itself(self):
        made = Captures(PAIRS)
        self.check_all(made, made, PAIRS, PAIRS)

    def test_assignment_with_an_operator_makes_a_new_object(self):
        made = kept = Captures([(0, "x")])
        made |= [(1, "y")]
        self.assertEqual((made.pairs, kept.pairs), (((0, "x"), (1, "y")), ((0, "x"),)))
        made -= kept
        self.assertEqual((made.pairs, kept.pairs), (((1, "y"),), ((0, "x"),)))

    def test_bad_pairs_on_either_side(self):
        made = Captures([(0, "x")])
        for value in [*WRONG, (True, "x"), (0, "of"), (10 ** 60, "x"), [0, "x"]]:
            for items in ([(9, "z"), value, None], ((0, "x"), value, (-1, "x"))):
                actions = [
                    lambda: made | items, lambda: made & items, lambda: made - items, lambda: made ^ items,
                    lambda: items | made, lambda: items & made, lambda: items - made, lambda: items ^ made,
                ]
                for action in actions:
                    self.assertIs(raised(action), value)


class TextTest(unittest.TestCase):
    def test_str(self):
        self.assertEqual(str(Captures()), "")
        self.assertEqual(str(Captures([(0, "x")])), "0:x")
        self.assertEqual(str(Captures([(10, "a"), (2, "b"), (2, "a")])), "2:a 2:b 10:a")
        self.assertEqual(str(Captures([(HIGHEST, "x")])), "9" * 60 + ":x")

    def test_read(self):
        self.assertEqual(Captures.read(""), Captures())
        self.assertEqual(Captures.read("0:x"), Captures([(0, "x")]))
        self.assertEqual(Captures.read("10:a 2:b 10:a 0:z9").pairs, ((0, "z9"), (2, "b"), (10, "a")))
        self.assertEqual(Captures.read("9" * 60 + ":x").pairs, ((HIGHEST, "x"),))
        self.assertEqual(Captures.read("1" + "0" * 59 + ":" + "q" * 12).pairs, ((10 ** 59, "q" * 12),))

    def test_read_gives_what_was_written(self):
        dice = random.Random(6)
        for _ in range(50):
            made = Captures(dice.choices(PAIRS, k=dice.randrange(8)))
            self.assertEqual(Captures.read(str(made)), made)

    def test_words_that_are_not_of_the_form(self):
        wrong = [
            "x", "0", ":", "0:", ":x", "0x", "00:x", "01:x", "-1:x", "+1:x", "1.0:x", "1_0:x", "0:X", "0:1x", "0:x:",
            "0:x:y", "0::x", "a:x", "0:" + "x" * 13, "1" + "0" * 60 + ":x", "9" * 61 + ":x", "0" * 60 + ":x", "0:x\t",
            "\t0:x", "0:x\n", "\u0661:x", "\u00b2:x", "0:\u00e9", "0;x", "0:x,", "9" * 5000 + ":x", "True:x",
            *["0:" + word for word in KEPT], *[chr(sign) + ":x" for sign in range(33, 127) if not chr(sign).isdigit()],
        ]
        for word in wrong:
            for text in (word, "0:x " + word, word + " 0:x", f"0:x {word} 0:of  "):
                self.assertEqual(raised(lambda: Captures.read(text)), word, text)

    def test_a_space_too_many_gives_an_empty_word(self):
        for text in ("0:x  1:x", " 0:x", "0:x ", " ", "  ", "0:x  0:of"):
            self.assertEqual(raised(lambda: Captures.read(text)), "")

    def test_the_first_wrong_word_in_the_text(self):
        self.assertEqual(raised(lambda: Captures.read("2:x 1:of 0:9 ")), "1:of")
        self.assertEqual(raised(lambda: Captures.read("9:x 8:with  z")), "8:with")


class CandidatesTest(unittest.TestCase):
    def test_example(self):
        found = [str(one) for one in candidates(Captures.of((0, "x"), (0, "y"), (1, "x")))]
        self.assertEqual(
            found, ["", "0:x", "0:y", "1:x", "0:x 0:y", "0:x 1:x", "0:y 1:x", "0:x 0:y 1:x"],
        )

    def test_each_subset_once_in_order(self):
        pairs = [(0, "x"), (10, "a"), (2, "b"), (2, "a"), (7, "q"), (7, "p"), (3, "c"), (HIGHEST, "z")]
        for many in range(9):
            free = Captures(pairs[:many])
            wanted = [
                rows for size in range(many + 1) for rows in itertools.combinations(sorted(pairs[:many]), size)
            ]
            found = list(candidates(free))
            self.assertEqual([one.pairs for one in found], wanted)
            self.assertTrue(all(type(one) is Captures for one in found))
            self.assertEqual(free, Captures(pairs[:many]))

    def test_too_many(self):
        nine = Captures([(at, "x") for at in range(9)])
        for free, rest in ((nine, ()), (nine - [(0, "x")], (7,)), (Captures([(0, "x")]), (0,))):
            with self.assertRaises(TooMany) as caught:
                next(iter(candidates(free, *rest)))
            self.assertEqual(caught.exception.many, len(free))

    def test_as_many_as_may_be(self):
        for many in range(9):
            free = Captures([(at, "x") for at in range(many)])
            self.assertEqual(len(list(candidates(free, most=many))), 2 ** many)
        self.assertEqual([one.pairs for one in candidates(Captures(), 0)], [()])
        self.assertEqual(len(list(candidates(Captures([(at, "x") for at in range(9)]), 9))), 2 ** 9)

    def test_can_be_left_early_and_asked_again(self):
        free = Captures(PAIRS)
        first = candidates(free)
        self.assertEqual([next(first).pairs, next(first).pairs], [(), ((0, "x"),)])
        self.assertEqual(len(list(candidates(free))), 64)


if __name__ == "__main__":
    unittest.main()
