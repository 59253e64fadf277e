"""Points [1] to [4]: what is a plan, and its places from outside."""

import unittest

from readyfire.plans import is_plan, outside

GOOD_NAMES = ("a", "z", "a0", "z9", "step", "abcdefgh", "a1234567", "sum", "fixed", "zzzzzzzz")
WRONG_NAMES = (
    "",
    "abcdefghi",
    "a12345678",
    "0",
    "1a",
    "9",
    "A",
    "aB",
    "Ab",
    "abZ",
    "a_b",
    "_a",
    "a-b",
    "a b",
    " a",
    "a ",
    " ",
    "a\n",
    "\na",
    "a\nb",
    "a\tb",
    "a.",
    "a`",
    "`",
    "a{",
    "{",
    "a/",
    "a:",
    "->",
    "~",
)
ANY_COUNT_RULES = (("sum",), ("times",), ("least",), ("most",), ("fixed", 7))


def step(name="add", rule=("sum",), needs=("a", "b"), gives=("c",)):
    return (name, rule, needs, gives)


def row_of_steps(many):
    """A plan of so many steps in a row, each of which needs what the one ahead gives."""
    return tuple(step("s" + str(k), ("sum",), ("p" + str(k),), ("p" + str(k + 1),)) for k in range(many))


def places(letter, many):
    return tuple(letter + str(k) for k in range(many))


class PlanTestCase(unittest.TestCase):
    def right(self, *plan):
        with self.subTest(plan):
            self.assertIs(is_plan(plan), True)

    def wrong(self, *plan):
        with self.subTest(plan):
            self.assertIs(is_plan(plan), False)


class IsPlanTest(PlanTestCase):
    def test_each_rule(self):
        self.right(step(rule=("sum",)))
        self.right(step(rule=("times",)))
        self.right(step(rule=("least",)))
        self.right(step(rule=("most",)))
        self.right(step(rule=("fixed", 7)))
        self.right(step(rule=("later",), needs=("a",)))
        self.right(step(rule=("way",), gives=("c", "d")))
        self.right(step(rule=("choose",), needs=("a", "b", "d")))

    def test_how_many_steps(self):
        for many in (1, 2, 19, 20):
            self.right(*row_of_steps(many))
        for many in (0, 21, 22, 40):
            self.wrong(*row_of_steps(many))

    def test_a_step_may_need_what_it_gives(self):
        self.right(step(needs=("a", "c"), gives=("c",)))
        self.right(step(rule=("later",), needs=("c",), gives=("c",)))

    def test_a_place_may_be_needed_twice_and_by_many_steps(self):
        self.right(step(needs=("a", "a")))
        self.right(step(needs=("a", "a", "a", "a")))
        self.right(step("one", gives=("c",)), step("two", gives=("d",)), step("three", gives=("e",)))

    def test_a_step_and_a_place_may_have_one_name(self):
        self.right(step("a"))
        self.right(step("c"))
        self.right(step("c", gives=("d",)), step("d", gives=("c",)))

    def test_a_name_may_be_a_rules_word(self):
        self.right(step("sum", ("sum",), ("fixed", "later"), ("way",)))

    def test_good_names(self):
        for name in GOOD_NAMES:
            self.right(step(name))
            self.right(step(needs=(name,)))
            self.right(step(gives=(name,)))

    def test_wrong_names(self):
        for name in WRONG_NAMES:
            self.wrong(step(name))
            self.wrong(step(needs=(name,)))
            self.wrong(step(needs=("a", "b", "d", name)))
            self.wrong(step(gives=(name,)))
            self.wrong(step(gives=("c", "d", name)))

    def test_one_wrong_step_among_right_ones_is_enough(self):
        for at in range(20):
            steps = list(row_of_steps(20))
            steps[at] = step("S", gives=("x",))
            self.wrong(*steps)

    def test_a_steps_name_twice(self):
        self.wrong(step("add", gives=("c",)), step("add", gives=("d",)))
        self.wrong(step("one", gives=("c",)), step("two", gives=("d",)), step("one", gives=("e",)))

    def test_a_place_given_to_by_two_steps(self):
        self.wrong(step("one", gives=("c",)), step("two", gives=("c",)))
        self.wrong(step("one", gives=("c", "d")), step("two", gives=("e", "f", "c")))
        self.wrong(step("one", gives=("c",)), step("two", gives=("d",)), step("three", ("later",), ("a",), ("c",)))

    def test_the_answer_is_a_truth_value_and_the_same_again(self):
        plan = row_of_steps(3)
        self.assertIs(is_plan(plan), True)
        self.assertIs(is_plan(plan), True)
        self.assertEqual(plan, row_of_steps(3))


class CountsTest(PlanTestCase):
    def fits(self, rule, needs, gives):
        self.right(step("x", rule, places("n", needs), places("g", gives)))

    def misfits(self, rule, needs, gives):
        self.wrong(step("x", rule, places("n", needs), places("g", gives)))

    def test_rules_of_any_count(self):
        for rule in ANY_COUNT_RULES:
            for needs in range(7):
                for gives in range(6):
                    if 1 <= needs <= 4 and 1 <= gives <= 3:
                        self.fits(rule, needs, gives)
                    else:
                        self.misfits(rule, needs, gives)

    def test_later(self):
        for gives in (1, 2, 3):
            self.fits(("later",), 1, gives)
        for needs, gives in ((0, 1), (2, 1), (3, 1), (4, 1), (5, 1), (1, 0), (1, 4)):
            self.misfits(("later",), needs, gives)

    def test_way(self):
        self.fits(("way",), 2, 2)
        for needs, gives in ((0, 2), (1, 2), (3, 2), (4, 2), (2, 0), (2, 1), (2, 3), (2, 4)):
            self.misfits(("way",), needs, gives)

    def test_choose(self):
        for gives in (1, 2, 3):
            self.fits(("choose",), 3, gives)
        for needs, gives in ((0, 1), (1, 1), (2, 1), (4, 1), (5, 1), (3, 0), (3, 4)):
            self.misfits(("choose",), needs, gives)

    def test_a_need_twice_counts_twice(self):
        self.wrong(step(rule=("later",), needs=("a", "a")))
        self.right(step(rule=("way",), needs=("a", "a"), gives=("c", "d")))
        self.right(step(rule=("choose",), needs=("a", "a", "a")))
        self.wrong(step(needs=("a", "a", "a", "a", "a")))

    def test_a_give_twice(self):
        self.wrong(step(gives=("c", "c")))
        self.wrong(step(gives=("c", "d", "c")))
        self.wrong(step(rule=("way",), gives=("c", "c")))
        self.wrong(step(rule=("later",), needs=("a",), gives=("d", "c", "c")))


class RuleTest(PlanTestCase):
    def test_words_that_are_none(self):
        for word in ("", "add", "Sum", "sum ", " sum", "su", "sums", "fix", "none", "a", "SUM", "choose\n"):
            self.wrong(step(rule=(word,)))
            self.wrong(step(rule=(word, 7)))

    def test_what_is_no_word(self):
        for word in (0, 1, 7, -1, True, False):
            self.wrong(step(rule=(word,)))
            self.wrong(step(rule=(word, 7)))

    def test_an_empty_rule(self):
        self.wrong(step(rule=()))

    def test_a_number_that_should_not_be_there(self):
        for word in ("sum", "times", "least", "most"):
            self.wrong(step(rule=(word, 7)))
            self.wrong(step(rule=(word, 0)))
            self.wrong(step(rule=(word, word)))
        self.wrong(step(rule=("later", 1), needs=("a",)))
        self.wrong(step(rule=("way", 1), gives=("c", "d")))
        self.wrong(step(rule=("choose", 1), needs=("a", "b", "d")))

    def test_fixed_has_one_number(self):
        self.wrong(step(rule=("fixed",)))
        self.wrong(step(rule=("fixed", 7, 7)))
        self.wrong(step(rule=("fixed", 7, 8, 9)))
        self.wrong(step(rule=(7, "fixed")))

    def test_the_number_of_fixed_is_a_value(self):
        for number in (0, 1, 10, 999999):
            self.right(step(rule=("fixed", number)))
        for number in (-1, 1000000, 10 ** 20, True, False, "7", "", "fixed"):
            self.wrong(step(rule=("fixed", number)))


MIXED = (
    step("one", ("sum",), ("m", "b", "m"), ("k", "l")),
    step("two", ("later",), ("z",), ("y",)),
    step("three", ("most",), ("b", "k", "c", "y"), ("x",)),
    step("four", ("fixed", 7), ("w", "a", "z"), ("w",)),
)


class OutsideTest(unittest.TestCase):
    def test_one_step(self):
        self.assertEqual(outside((step(),)), ["a", "b"])
        self.assertEqual(outside((step(needs=("b", "a")),)), ["b", "a"])

    def test_a_place_needed_twice_comes_once(self):
        self.assertEqual(outside((step(needs=("b", "a", "b", "a")),)), ["b", "a"])

    def test_places_come_as_they_first_come_in_the_plan(self):
        self.assertEqual(outside(MIXED), ["m", "b", "z", "c", "a"])

    def test_places_that_only_steps_give_to_are_left_out(self):
        self.assertEqual(outside((step(gives=("d", "e", "f")),)), ["a", "b"])
        self.assertEqual(outside(row_of_steps(20)), ["p0"])

    def test_a_place_given_to_by_a_step_further_on_is_not_from_outside(self):
        plan = (step("two", needs=("q", "a"), gives=("r",)), step("one", needs=("b",), gives=("q",)))
        self.assertEqual(outside(plan), ["a", "b"])

    def test_a_place_given_to_by_a_later_is_not_from_outside(self):
        self.assertEqual(outside((step("x", ("later",), ("a",), ("b",)), step("y", needs=("b",)))), ["a"])

    def test_there_may_be_none(self):
        self.assertEqual(outside((step(needs=("c",)),)), [])

    def test_a_steps_name_is_no_place(self):
        self.assertEqual(outside((step("a"), step("b", gives=("d",)))), ["a", "b"])

    def test_it_is_a_list_of_its_own_each_time(self):
        first = outside(MIXED)
        second = outside(MIXED)
        self.assertIs(first.__class__, list)
        self.assertIsNot(first, second)
        first.append("more")
        first[0] = "other"
        self.assertEqual(second, ["m", "b", "z", "c", "a"])
        self.assertEqual(outside(MIXED), ["m", "b", "z", "c", "a"])


if __name__ == "__main__":
    unittest.main()
