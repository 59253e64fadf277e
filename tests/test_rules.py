"""Points [2], [3] and [14]: values, and what each rule gives."""

import unittest

from readyfire.rules import is_value, outcome


class IsValueTest(unittest.TestCase):
    def test_values(self):
        for thing in (0, 1, 7, 10, 500000, 999998, 999999):
            with self.subTest(thing):
                self.assertIs(is_value(thing), True)

    def test_numbers_that_are_none(self):
        for thing in (-1, -999999, 1000000, 1000001, 10 ** 30, -(10 ** 30)):
            with self.subTest(thing):
                self.assertIs(is_value(thing), False)

    def test_truth_values_are_none(self):
        self.assertIs(is_value(True), False)
        self.assertIs(is_value(False), False)

    def test_none_and_texts_are_none(self):
        for thing in (None, "", "0", "5", "a", "999999", "\n"):
            with self.subTest(thing):
                self.assertIs(is_value(thing), False)


class OutcomeTest(unittest.TestCase):
    def gives(self, rule, values, result):
        """The rule gives that one value to each of one, two and three places."""
        for many in (1, 2, 3):
            with self.subTest(rule=rule, values=values, many=many):
                answer = outcome(rule, list(values), many)
                self.assertIs(answer.__class__, list)
                self.assertEqual(answer, [result] * many)
                self.assertTrue(all(is_value(value) for value in answer))

    def test_sum(self):
        self.gives(("sum",), [0], 0)
        self.gives(("sum",), [999999], 999999)
        self.gives(("sum",), [2, 3], 5)
        self.gives(("sum",), [2, 2, 2], 6)
        self.gives(("sum",), [1, 20, 300, 4000], 4321)

    def test_sum_about_a_million_and_beyond(self):
        self.gives(("sum",), [999998, 1], 999999)
        self.gives(("sum",), [999999, 1], 0)
        self.gives(("sum",), [500000, 500000], 0)
        self.gives(("sum",), [999999, 2], 1)
        self.gives(("sum",), [999999, 999999], 999998)
        self.gives(("sum",), [999999, 999999, 2], 0)
        self.gives(("sum",), [999999, 999999, 999999, 999999], 999996)

    def test_times(self):
        self.gives(("times",), [0], 0)
        self.gives(("times",), [999999], 999999)
        self.gives(("times",), [6, 7], 42)
        self.gives(("times",), [6, 0, 7], 0)
        self.gives(("times",), [2, 3, 5, 7], 210)

    def test_times_about_a_million_and_beyond(self):
        self.gives(("times",), [333333, 3], 999999)
        self.gives(("times",), [1000, 1000], 0)
        self.gives(("times",), [101, 9901], 1)
        self.gives(("times",), [999999, 999999], 1)
        self.gives(("times",), [999999, 999999, 999999], 999999)
        self.gives(("times",), [999999, 999999, 999999, 999999], 1)
        self.gives(("times",), [123456, 654321, 111111, 7], 225152)

    def test_least(self):
        self.gives(("least",), [8], 8)
        self.gives(("least",), [3, 2], 2)
        self.gives(("least",), [2, 3], 2)
        self.gives(("least",), [5, 4, 4], 4)
        self.gives(("least",), [999999, 7, 0, 9], 0)

    def test_most(self):
        self.gives(("most",), [8], 8)
        self.gives(("most",), [3, 2], 3)
        self.gives(("most",), [2, 3], 3)
        self.gives(("most",), [5, 5, 4], 5)
        self.gives(("most",), [0, 7, 999999, 9], 999999)

    def test_fixed(self):
        for number in (0, 1, 7, 999999):
            self.gives(("fixed", number), [5], number)
            self.gives(("fixed", number), [0, 1], number)
            self.gives(("fixed", number), [3, 3, 3], number)
            self.gives(("fixed", number), [0, 999999, 1, 2], number)

    def test_later(self):
        for value in (0, 1, 999999):
            self.gives(("later",), [value], value)

    def test_way_where_the_second_value_is_0(self):
        self.assertEqual(outcome(("way",), [5, 0], 2), [5, None])
        self.assertEqual(outcome(("way",), [0, 0], 2), [0, None])
        self.assertEqual(outcome(("way",), [999999, 0], 2), [999999, None])

    def test_way_where_the_second_value_is_not_0(self):
        self.assertEqual(outcome(("way",), [5, 1], 2), [None, 5])
        self.assertEqual(outcome(("way",), [0, 1], 2), [None, 0])
        self.assertEqual(outcome(("way",), [0, 999999], 2), [None, 0])
        self.assertEqual(outcome(("way",), [999999, 2], 2), [None, 999999])

    def test_choose_where_the_first_value_is_0(self):
        self.gives(("choose",), [0, 4, 6], 4)
        self.gives(("choose",), [0, 0, 6], 0)
        self.gives(("choose",), [0, 4, None], 4)
        self.gives(("choose",), [0, 0, None], 0)

    def test_choose_where_the_first_value_is_not_0(self):
        self.gives(("choose",), [1, 4, 6], 6)
        self.gives(("choose",), [2, 4, 0], 0)
        self.gives(("choose",), [999999, None, 6], 6)
        self.gives(("choose",), [1, None, 0], 0)


ASKED = (
    (("sum",), [999999, 4, 3, 2], 3),
    (("times",), [5, 0, 7], 2),
    (("least",), [3, 1, 2], 1),
    (("most",), [3, 1, 2], 1),
    (("fixed", 9), [5, 6], 2),
    (("later",), [5], 1),
    (("way",), [5, 0], 2),
    (("way",), [5, 3], 2),
    (("choose",), [0, 4, None], 1),
    (("choose",), [1, None, 4], 3),
)


class OutcomeListsTest(unittest.TestCase):
    def test_the_values_stay_as_they_were(self):
        for rule, values, many in ASKED:
            with self.subTest(rule):
                handed = list(values)
                answer = outcome(rule, handed, many)
                self.assertEqual(handed, values)
                answer.append(1)
                answer[0] = 77
                self.assertEqual(handed, values)

    def test_asked_again_it_answers_the_same_in_a_list_of_its_own(self):
        for rule, values, many in ASKED:
            with self.subTest(rule):
                first = outcome(rule, values, many)
                kept = list(first)
                second = outcome(rule, values, many)
                self.assertIsNot(first, second)
                self.assertEqual(second, kept)
                second.append(1)
                second[0] = 77
                self.assertEqual(first, kept)
                self.assertEqual(outcome(rule, values, many), kept)

    def test_it_answers_as_many_as_it_is_asked_for(self):
        for rule, values, many in ASKED:
            with self.subTest(rule):
                self.assertEqual(len(outcome(rule, values, many)), many)


if __name__ == "__main__":
    unittest.main()
