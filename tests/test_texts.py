"""Point [13]: plans as texts."""

import random
import unittest

from readyfire.errors import NoText
from readyfire.plans import is_plan
from readyfire.texts import read, shown
from tests.helper import ADD, MIXED, chance_plan, ring, step, wheel

ADD_TEXT = "add sum a b -> c\n"
DOCUMENT = (
    step("add", ("sum",), ("a", "b"), ("c",)),
    step("one", ("fixed", 7), ("a",), ("b", "d")),
)
DOCUMENT_TEXT = "add sum a b -> c\none fixed 7 a -> b d\n"
MIXED_TEXT = (
    "sort way a b -> c d\n"
    "add sum c c k -> e\n"
    "mul times d k -> f g\n"
    "pick choose b e f -> h\n"
    "next later h -> k\n"
    "low least h k -> l\n"
    "high most h k -> m\n"
    "seven fixed 7 h -> n\n"
)
SIGNS = [chr(sign) for sign in range(32, 127)] + ["\n", "\t"]


def fixed(number):
    return (step("x", ("fixed", number), ("a",), ("b",)),)


def row_of(many):
    return "".join("s%d sum p%d -> p%d\n" % (k, k, k + 1) for k in range(many))


class BothWaysTest(unittest.TestCase):
    def both_ways(self, plan, text):
        self.assertEqual(shown(plan), text)
        self.assert_same_plan(read(text), plan)

    def assert_same_plan(self, plan, other):
        """Also of the same kinds, which == alone does not tell of True and 1."""
        self.assertEqual(repr(plan), repr(other))
        self.assertIs(is_plan(plan), True)

    def test_the_rows_of_the_document(self):
        self.both_ways(DOCUMENT, DOCUMENT_TEXT)

    def test_each_rule(self):
        self.both_ways(MIXED, MIXED_TEXT)
        for k, row in enumerate(MIXED_TEXT.splitlines(True)):
            self.both_ways(MIXED[k:k + 1], row)

    def test_the_numbers_of_fixed(self):
        for number in (0, 1, 7, 9, 10, 100, 101, 99999, 100000, 999999):
            self.both_ways(fixed(number), "x fixed " + str(number) + " a -> b\n")

    def test_names_of_1_and_of_8_signs(self):
        self.both_ways((step("a", ("sum",), ("a",), ("a",)),), "a sum a -> a\n")
        self.both_ways(
            (step("abcdefgh", ("most",), ("z0123456", "b1"), ("y7", "zzzzzzzz")),),
            "abcdefgh most z0123456 b1 -> y7 zzzzzzzz\n",
        )

    def test_names_that_are_words_of_rules(self):
        self.both_ways((step("fixed", ("sum",), ("fixed", "sum"), ("later",)),), "fixed sum fixed sum -> later\n")
        self.both_ways((step("sum", ("fixed", 3), ("fixed",), ("way",)),), "sum fixed 3 fixed -> way\n")

    def test_the_most_needs_and_gives(self):
        self.both_ways((step("x", ("sum",), ("a", "a", "b", "c"), ("d", "e", "f")),), "x sum a a b c -> d e f\n")
        self.both_ways((step("x", ("fixed", 0), ("a", "b", "c", "d"), ("d", "e", "f")),),
                       "x fixed 0 a b c d -> d e f\n")

    def test_1_and_20_steps(self):
        self.both_ways(ADD, ADD_TEXT)
        for many in (1, 2, 19, 20):
            self.assertEqual(shown(read(row_of(many))), row_of(many))
            self.assertEqual(len(read(row_of(many))), many)

    def test_many_plans(self):
        plans = [wheel(20), ring(20)] + [chance_plan(random.Random(seed), 20) for seed in range(200)]
        for plan in plans:
            self.assert_same_plan(read(shown(plan)), plan)
            self.assertEqual(shown(plan).count("\n"), len(plan))

    def test_the_kinds_of_what_is_read(self):
        plan = read(MIXED_TEXT)
        self.assertIs(plan.__class__, tuple)
        for one in plan:
            self.assertEqual([part.__class__ for part in one], [str, tuple, tuple, tuple])

    def test_asked_again_the_same_comes(self):
        self.assertEqual(shown(MIXED), shown(MIXED))
        self.assertEqual(read(MIXED_TEXT), read(MIXED_TEXT))


class RefusedTest(unittest.TestCase):
    def refused(self, *texts):
        for text in texts:
            with self.subTest(text[:60]):
                with self.assertRaises(NoText) as caught:
                    read(text)
                self.assertIs(caught.exception.__class__, NoText)

    def test_the_empty_text_and_blank_ones(self):
        self.refused("", " ", "\n", "\n\n", "\t", " \n", "->", "->\n", " -> \n", "-> c\n")

    def test_line_ends(self):
        self.refused(
            "add sum a b -> c",
            "add sum a b -> c\n\n",
            "\nadd sum a b -> c\n",
            "add sum a b -> c\n ",
            "add sum a b -> c\none fixed 7 a -> b d",
            "add sum a b -> c\n\none fixed 7 a -> b d\n",
            "add sum a b -> c one fixed 7 a -> b d\n",
            "add sum a b\n-> c\n",
            "add sum a b ->\nc\n",
            "add\nsum a b -> c\n",
        )

    def test_blanks_and_tabs(self):
        self.refused(
            " add sum a b -> c\n",
            "add sum a b -> c \n",
            "add  sum a b -> c\n",
            "add sum  a b -> c\n",
            "add sum a  b -> c\n",
            "add sum a b  -> c\n",
            "add sum a b ->  c\n",
            "add\tsum a b -> c\n",
            "add sum a\tb -> c\n",
            "add sum a b\t-> c\n",
            "add sum a b -> c\t\n",
            "\tadd sum a b -> c\n",
            "add sum a b -> c\n\t",
            "x fixed  7 a -> b\n",
            "x fixed 7  a -> b\n",
            "x fixed\t7 a -> b\n",
            "x fixed 7\ta -> b\n",
        )

    def test_arrows(self):
        self.refused(
            "add sum a b c\n",
            "add sum a b - > c\n",
            "add sum a b > c\n",
            "add sum a b - c\n",
            "add sum a b --> c\n",
            "add sum a b->c\n",
            "add sum a b-> c\n",
            "add sum a b ->c\n",
            "add sum a b -> -> c\n",
            "add sum a b -> c -> d\n",
            "add sum a -> b -> c\n",
            "-> add sum a b -> c\n",
            "add -> sum a b -> c\n",
            "add sum a b => c\n",
        )

    def test_rows_that_lack_something(self):
        self.refused(
            "add\n",
            "add sum\n",
            "add sum a b\n",
            "add -> c\n",
            "add sum -> c\n",
            "add sum a b ->\n",
            "add sum a b -> \n",
            "sum a b -> c\n",
            "x fixed -> b\n",
            "x fixed 7 -> b\n",
            "x fixed a -> b\n",
            "fixed 7 a -> b\n",
            "x fixed 7 a ->\n",
            "x 7 a -> b\n",
            "add () a b -> c\n",
        )

    def test_numbers(self):
        for number in (
            "", "07", "00", "000000", "0000007", "-1", "-0", "+7", "1000000", "9999999", "7.0", "7e1", "0x7",
            "1_000", "1,000", "seven", "True", "None", "7a", "a7", "(7)", "7,", "9" * 5000, "0" * 5000,
        ):
            self.refused("x fixed " + number + " a -> b\n")
        self.refused("x fixed 7 7 a -> b\n", "x sum 7 a -> b\n", "x later 1 a -> b\n", "x fixed a 7 -> b\n")

    def test_words_of_no_rule(self):
        for word in ("add", "Sum", "SUM", "su", "sums", "fix", "7", "", "a", "choice", "sum,"):
            self.refused("x " + word + " a -> b\n")

    def test_wrong_names(self):
        for name in ("A", "7", "7a", "abcdefghi", "a_b", "a.", "-", "", "a,", "a>", "~"):
            self.refused(
                name + " sum a b -> c\n",
                "add sum " + name + " b -> c\n",
                "add sum a " + name + " -> c\n",
                "add sum a b -> " + name + "\n",
                "add sum a b -> c " + name + "\n",
            )

    def test_steps_of_wrong_counts(self):
        self.refused(
            "x sum a b c d e -> f\n",
            "x sum a -> b c d e\n",
            "x sum a -> b b\n",
            "x later a b -> c\n",
            "x way a -> b c\n",
            "x way a b c -> d e\n",
            "x way a b -> c\n",
            "x way a b -> c d e\n",
            "x choose a b -> c\n",
            "x choose a b c d -> e\n",
            "x fixed 7 a b c d e -> f\n",
        )

    def test_right_steps_that_make_no_plan(self):
        self.refused(
            "x sum a -> b\nx sum a -> c\n",
            "x sum a -> b\ny sum a -> b\n",
            "x sum a -> b c\ny way a a -> d c\n",
            row_of(21),
            row_of(22),
            row_of(2000),
        )

    def test_one_wrong_row_is_enough(self):
        rows = row_of(20).splitlines(True)
        for k in range(20):
            for wrong in ("", " ", "x sum a -> b ", "x sum a", "X sum a -> b"):
                self.refused("".join(rows[:k]) + wrong + "\n" + "".join(rows[k + 1:]))


class ChangedTextTest(unittest.TestCase):
    """A text is read as a plan just where it is the text of that plan."""

    def right_or_refused(self, text):
        try:
            plan = read(text)
        except NoText:
            return 0
        self.assertIs(is_plan(plan), True)
        self.assertEqual(shown(plan), text)
        return 1

    def test_one_sign_left_out_put_in_or_changed(self):
        text = "add sum a b -> c\none fixed 70 a -> b1 d\n"
        right = 0
        for k in range(len(text) + 1):
            right += self.right_or_refused(text[:k] + text[k + 1:])
            for sign in SIGNS:
                right += self.right_or_refused(text[:k] + sign + text[k:])
                right += self.right_or_refused(text[:k] + sign + text[k + 1:])
        self.assertGreater(right, 1000)

    def test_one_word_left_out_put_in_or_changed(self):
        words = MIXED_TEXT.replace("\n", " \n ").split(" ")
        for k in range(len(words)):
            for word in ("", "a", "x", "->", "\n", "0", "07", "fixed", "later", "choose"):
                for changed in (words[:k] + [word] + words[k:], words[:k] + [word] + words[k + 1:]):
                    self.right_or_refused(" ".join(changed).replace(" \n ", "\n"))

    def test_words_in_chance_order(self):
        chance = random.Random(3)
        words = ["a", "b", "c", "d", "sum", "fixed", "7", "07", "->", "->", "way", "later", "\n", "\n"]
        for _ in range(20000):
            text = " ".join(chance.choice(words) for _ in range(chance.randint(1, 9))) + " \n"
            self.right_or_refused(text.replace(" \n ", "\n").replace(" \n", "\n"))


if __name__ == "__main__":
    unittest.main()
