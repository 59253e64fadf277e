"""Points [2] to [7]: boards, what is put to them, and steps that fire, one by one."""

import unittest

from readyfire.boards import Board
from readyfire.errors import Fired, NoPlace, NoPlan, NoStep, NoTurn, NotReady, NoValue, TokenThere
from tests.helper import (
    ADD, ENDLESS, MIXED, NO_NAMES, NO_VALUES, attempt, filled, no_turns, places_of, step, told, wheel,
)

LATER = (step("next", ("later",), ("a",), ("b", "c")),)
# A step and a place of one name; places at which nothing is needed; a later's own need.
NAMES = (step("a", ("sum",), ("a", "b"), ("add",)), step("b", ("later",), ("z9999999",), ("z9999999", "q")))
NO_PLANS = (
    (),
    (step(""),),
    (step("Add"),),
    (step("abcdefghi"),),
    (step(rule=("add",)),),
    (step(rule=("sum", 1)),),
    (step(rule=("fixed", True)),),
    (step(rule=("fixed", 1000000)),),
    (step(rule=("later",)),),
    (step(needs=()),),
    (step(gives=()),),
    (step(gives=("c", "c")),),
    (step(), step(gives=("d",))),
    (step(), step("more")),
    wheel(20) + (step("more"),),
)


class BoardTestCase(unittest.TestCase):
    def refused(self, error, call, *arguments):
        """The call is refused by that very error."""
        with self.assertRaises(error) as caught:
            call(*arguments)
        self.assertIs(caught.exception.__class__, error)

    def refused_and_unchanged(self, error, board, call, *arguments):
        ahead = told(board)
        self.refused(error, call, *arguments)
        self.assertEqual(told(board), ahead)


class NewBoardTest(BoardTestCase):
    def test_of_1_and_of_200_turns_of_1_and_of_20_steps(self):
        for plan in (ADD, MIXED, wheel(20)):
            for turns in (1, 2, 199, 200):
                board = Board(plan, turns)
                self.assertEqual(board.ready(), [])
                self.assertEqual(board.fired(), [])
                for place in places_of(plan):
                    self.assertEqual(board.told(place), [])
                    self.assertIsNone(board.at(place, 0))
                    self.assertIsNone(board.at(place, turns - 1))

    def test_what_is_no_plan(self):
        for plan in NO_PLANS:
            self.refused(NoPlan, Board, plan, 5)

    def test_what_is_no_number_of_turns(self):
        for turns in (0, -1, 5.0, 201, 202, 1000, ENDLESS, -ENDLESS, True, False, None, "", "5", "a"):
            self.refused(NoTurn, Board, ADD, turns)

    def test_no_plan_is_due_ahead_of_no_turn(self):
        for plan in NO_PLANS:
            for turns in (0, 201, True, None, "5"):
                self.refused(NoPlan, Board, plan, turns)

    def test_two_boards_of_one_plan_are_apart(self):
        one = filled(ADD, 3, ("a", 0, 1), ("b", 0, 2))
        two = Board(ADD, 3)
        one.fire("add", 0)
        self.assertEqual(two.fired(), [])
        self.assertEqual(two.told("a") + two.told("c"), [])
        two.put("a", 0, 9)
        self.assertEqual(one.told("a"), [(0, 1)])

    def test_a_board_by_names_of_its_arguments(self):
        board = Board(plan=ADD, turns=1)
        self.assertIsNone(board.put(place="a", turn=0, value=1))
        self.assertIsNone(board.put(place="b", turn=0, value=1))
        self.assertIsNone(board.fire(name="add", turn=0))
        self.assertEqual(board.at(place="c", turn=0), 2)
        self.assertEqual(board.told(place="c"), [(0, 2)])


class PutTest(BoardTestCase):
    def test_from_outside_for_any_turn(self):
        for turns in (1, 2, 200):
            board = Board(ADD, turns)
            for turn in range(turns):
                for place in ("a", "b"):
                    self.assertIsNone(board.put(place, turn, 1000 * turn))
                    self.assertEqual(board.at(place, turn), 1000 * turn)
            self.assertEqual(board.told("a"), [(turn, 1000 * turn) for turn in range(turns)])

    def test_the_least_and_the_greatest_value(self):
        board = filled(ADD, 2, ("a", 0, 0), ("a", 1, 999999))
        self.assertEqual(board.told("a"), [(0, 0), (1, 999999)])
        self.assertEqual([board.at("a", 0), board.at("a", 1)], [0, 999999])

    def test_a_value_is_there_for_its_turn_and_place_alone(self):
        board = filled(ADD, 5, ("a", 2, 7))
        self.assertEqual([board.at("a", turn) for turn in range(5)], [None, None, 7, None, None])
        self.assertEqual([board.at("b", turn) for turn in range(5)], [None] * 5)

    def test_told_is_by_turns_in_whatever_order_they_were_put(self):
        board = filled(ADD, 200, ("a", 199, 1), ("a", 10, 2), ("a", 0, 3), ("a", 100, 4), ("a", 9, 5))
        self.assertEqual(board.told("a"), [(0, 3), (9, 5), (10, 2), (100, 4), (199, 1)])

    def test_to_what_a_later_gives_for_turn_0(self):
        for turns in (1, 2, 200):
            board = Board(LATER, turns)
            self.assertIsNone(board.put("b", 0, 5))
            self.assertEqual(board.told("b"), [(0, 5)])
            self.assertEqual(board.told("c"), [])
            self.assertIsNone(board.put("c", 0, 6))
            self.assertEqual(board.told("c"), [(0, 6)])

    def test_to_what_a_later_gives_and_needs(self):
        board = Board(NAMES, 3)
        board.put("z9999999", 0, 4)
        self.assertEqual(board.told("z9999999"), [(0, 4)])
        self.assertEqual(board.ready(), [("b", 0)])
        self.refused_and_unchanged(NoPlace, board, board.put, "z9999999", 1, 4)

    def test_to_what_a_later_gives_for_another_turn(self):
        board = filled(LATER, 200, ("a", 0, 3))
        for turn in (1, 2, 100, 199):
            self.refused_and_unchanged(NoPlace, board, board.put, "b", turn, 5)
            self.refused_and_unchanged(NoPlace, board, board.put, "c", turn, 5)

    def test_to_what_another_step_gives(self):
        for rule, needs, gives in (
            (("sum",), ("a",), ("c", "d", "e")),
            (("times",), ("a", "b"), ("c",)),
            (("least",), ("a", "b"), ("c",)),
            (("most",), ("a", "b"), ("c",)),
            (("fixed", 0), ("a",), ("c",)),
            (("way",), ("a", "b"), ("c", "d")),
            (("choose",), ("a", "b", "c"), ("c",)),
        ):
            board = Board((step("x", rule, needs, gives),), 3)
            for place in gives:
                for turn in range(3):
                    self.refused_and_unchanged(NoPlace, board, board.put, place, turn, 5)

    def test_what_is_no_place(self):
        board = filled(ADD, 3, ("a", 0, 1))
        for place in NO_NAMES + ("add", "d", "aa"):
            self.refused_and_unchanged(NoPlace, board, board.put, place, 0, 5)

    def test_a_step_and_a_place_of_one_name(self):
        board = filled(NAMES, 2, ("a", 0, 1), ("b", 0, 2))
        self.assertEqual(board.ready(), [("a", 0)])
        board.fire("a", 0)
        self.assertEqual(board.told("add"), [(0, 3)])
        self.refused(NoPlace, board.put, "add", 1, 5)
        self.refused(NoStep, board.fire, "add", 0)

    def test_what_is_no_turn(self):
        for turns in (1, 3, 199):
            board = filled(ADD, turns, ("a", 0, 1))
            for turn in no_turns(turns):
                self.refused_and_unchanged(NoTurn, board, board.put, "b", turn, 5)

    def test_what_is_no_value(self):
        board = filled(ADD, 3, ("a", 0, 1))
        for value in NO_VALUES:
            self.refused_and_unchanged(NoValue, board, board.put, "b", 0, value)
            self.refused_and_unchanged(NoValue, board, board.put, "a", 2, value)

    def test_where_a_value_is_there(self):
        board = filled(ADD, 2, ("a", 0, 0), ("a", 1, 5), ("b", 1, 6))
        for value in (0, 1, 999999):
            self.refused_and_unchanged(TokenThere, board, board.put, "a", 0, value)
            self.refused_and_unchanged(TokenThere, board, board.put, "a", 1, value)
        board.fire("add", 1)
        self.refused_and_unchanged(TokenThere, board, board.put, "a", 1, 5)
        board.put("b", 0, 9)
        self.assertEqual(board.told("b"), [(0, 9), (1, 6)])

    def test_where_a_value_is_there_that_a_later_could_give(self):
        board = filled(LATER, 2, ("b", 0, 4))
        self.refused_and_unchanged(TokenThere, board, board.put, "b", 0, 4)
        self.refused_and_unchanged(NoValue, board, board.put, "b", 0, 1000000)
        self.refused_and_unchanged(NoPlace, board, board.put, "b", 1, 4)

    def test_which_refusal_is_due_first(self):
        board = filled(ADD + (step("next", ("later",), ("c",), ("e",)),), 3, ("a", 0, 1), ("e", 0, 1))
        for error, place, turn, value in (
            (NoPlace, "x", 0, -1),
            (NoPlace, "x", 3, 5),
            (NoPlace, None, None, None),
            (NoPlace, True, True, True),
            (NoPlace, "add", -1, 1000000),
            (NoTurn, "a", 3, -1),
            (NoTurn, "a", None, None),
            (NoTurn, "c", 3, 5),
            (NoTurn, "c", True, 5),
            (NoTurn, "c", "0", None),
            (NoTurn, "e", 3, -1),
            (NoTurn, "e", -1, 5),
            (NoPlace, "c", 0, -1),
            (NoPlace, "c", 2, True),
            (NoPlace, "e", 1, None),
            (NoPlace, "e", 2, 1000000),
            (NoValue, "a", 0, -1),
            (NoValue, "a", 0, True),
            (NoValue, "e", 0, None),
            (TokenThere, "a", 0, 5),
            (TokenThere, "e", 0, 5),
        ):
            self.refused_and_unchanged(error, board, board.put, place, turn, value)

    def test_no_place_is_due_ahead_of_a_value_that_a_step_gave(self):
        board = filled(ADD, 1, ("a", 0, 1), ("b", 0, 1))
        board.fire("add", 0)
        self.refused_and_unchanged(NoPlace, board, board.put, "c", 0, 2)
        self.refused_and_unchanged(NoPlace, board, board.put, "c", 0, -2)


class AtAndToldTest(BoardTestCase):
    def test_what_is_no_place(self):
        board = filled(ADD, 3, ("a", 0, 1))
        for place in NO_NAMES + ("add",):
            self.refused_and_unchanged(NoPlace, board, board.at, place, 0)
            self.refused_and_unchanged(NoPlace, board, board.told, place)

    def test_what_is_no_turn(self):
        for turns in (1, 3, 199):
            board = filled(ADD, turns, ("a", 0, 1))
            for turn in no_turns(turns):
                self.refused_and_unchanged(NoTurn, board, board.at, "a", turn)
                self.refused_and_unchanged(NoTurn, board, board.at, "c", turn)

    def test_no_place_is_due_ahead_of_no_turn(self):
        board = Board(ADD, 3)
        for place in NO_NAMES + ("add",):
            for turn in no_turns(3):
                self.assertIs(attempt(board.at, place, turn), NoPlace)

    def test_asking_changes_nothing(self):
        board = filled(MIXED, 3, ("a", 0, 1), ("b", 0, 0), ("k", 0, 2))
        ahead = told(board)
        self.assertEqual(told(board), ahead)
        self.assertEqual(told(board), ahead)


class FireTest(BoardTestCase):
    def fires(self, rule, values, given):
        """A step of the rule, of values at n0, n1 .., gives that at g0, g1 .. for its turn."""
        needs = tuple("n" + str(k) for k in range(len(values)))
        gives = tuple("g" + str(k) for k in range(len(given)))
        for turns, turn in ((1, 0), (3, 0), (3, 1), (3, 2), (200, 199)):
            board = Board((step("x", rule, needs, gives),), turns)
            for place, value in zip(needs, values):
                if value is not None:
                    board.put(place, turn, value)
            self.assertEqual(board.ready(), [("x", turn)])
            self.assertIsNone(board.fire("x", turn))
            self.assertEqual(board.fired(), [("x", turn)])
            self.assertEqual(board.ready(), [])
            for place, value in zip(gives, given):
                self.assertEqual(board.told(place), [] if value is None else [(turn, value)])
                self.assertEqual(board.at(place, turn), value)
            for place, value in zip(needs, values):
                self.assertEqual(board.at(place, turn), value)

    def test_sum(self):
        self.fires(("sum",), [5], [5])
        self.fires(("sum",), [1, 2, 3, 4], [10, 10, 10])
        self.fires(("sum",), [999999, 1], [0])
        self.fires(("sum",), [999999, 999999, 999999, 999999], [999996])
        self.fires(("sum",), [0, 0], [0, 0])

    def test_times(self):
        self.fires(("times",), [5], [5])
        self.fires(("times",), [2, 3, 4, 5], [120, 120])
        self.fires(("times",), [1000, 1000], [0])
        self.fires(("times",), [999999, 999999], [1])
        self.fires(("times",), [999999, 0], [0])

    def test_least_and_most(self):
        self.fires(("least",), [5], [5])
        self.fires(("least",), [999999, 3, 0, 9], [0, 0, 0])
        self.fires(("most",), [0], [0])
        self.fires(("most",), [3, 999999, 0, 9], [999999, 999999])

    def test_fixed(self):
        for number in (0, 7, 999999):
            self.fires(("fixed", number), [5], [number])
            self.fires(("fixed", number), [5, 0, 1, 2], [number] * 3)

    def test_way(self):
        self.fires(("way",), [5, 0], [5, None])
        self.fires(("way",), [0, 0], [0, None])
        self.fires(("way",), [5, 1], [None, 5])
        self.fires(("way",), [0, 999999], [None, 0])

    def test_choose(self):
        self.fires(("choose",), [0, 5, 6], [5])
        self.fires(("choose",), [0, 5, None], [5, 5, 5])
        self.fires(("choose",), [0, 0, None], [0])
        self.fires(("choose",), [1, 5, 6], [6])
        self.fires(("choose",), [1, None, 6], [6, 6])
        self.fires(("choose",), [999999, None, 0], [0])

    def test_later_gives_for_the_next_turn(self):
        for turns in (2, 3, 200):
            for turn in (0, turns - 2):
                board = filled(LATER, turns, ("a", turn, 8))
                board.fire("next", turn)
                self.assertEqual(board.told("b"), [(turn + 1, 8)])
                self.assertEqual(board.told("c"), [(turn + 1, 8)])
                self.assertEqual(board.fired(), [("next", turn)])

    def test_later_gives_nothing_at_the_last_turn(self):
        for turns in (1, 2, 200):
            board = filled(LATER, turns, ("a", turns - 1, 8))
            self.assertEqual(board.ready(), [("next", turns - 1)])
            self.assertIsNone(board.fire("next", turns - 1))
            self.assertEqual(board.told("b") + board.told("c"), [])
            self.assertEqual(board.fired(), [("next", turns - 1)])
            self.assertEqual(board.ready(), [])
            self.refused(Fired, board.fire, "next", turns - 1)

    def test_a_later_does_not_touch_what_was_put_for_turn_0(self):
        board = filled(LATER, 3, ("b", 0, 1), ("a", 0, 2), ("a", 1, 3))
        board.fire("next", 1)
        board.fire("next", 0)
        self.assertEqual(board.told("b"), [(0, 1), (1, 2), (2, 3)])
        self.assertEqual(board.told("c"), [(1, 2), (2, 3)])

    def test_a_later_that_needs_what_it_gives(self):
        board = filled((step("next", ("later",), ("a",), ("a",)),), 3, ("a", 0, 5))
        for turn in range(3):
            self.assertEqual(board.ready(), [("next", turn)])
            board.fire("next", turn)
        self.assertEqual(board.ready(), [])
        self.assertEqual(board.told("a"), [(0, 5), (1, 5), (2, 5)])

    def test_a_place_needed_twice_counts_twice(self):
        board = filled((step("x", ("sum",), ("a", "b", "a"), ("c",)),), 1, ("a", 0, 10), ("b", 0, 3))
        self.assertEqual(board.ready(), [("x", 0)])
        board.fire("x", 0)
        self.assertEqual(board.told("c"), [(0, 23)])

    def test_many_steps_need_one_place(self):
        plan = tuple(step("s" + str(k), ("fixed", k), ("a",), ("p" + str(k),)) for k in range(20))
        board = filled(plan, 2, ("a", 1, 5))
        self.assertEqual(board.ready(), [("s" + str(k), 1) for k in range(20)])
        for k in reversed(range(20)):
            board.fire("s" + str(k), 1)
        self.assertEqual([board.at("p" + str(k), 1) for k in range(20)], list(range(20)))
        self.assertEqual(board.told("a"), [(1, 5)])

    def test_what_is_no_step(self):
        board = filled(ADD, 3, ("a", 0, 1), ("b", 0, 1))
        for name in NO_NAMES + ("a", "c", "sum", "Add", "add "):
            self.refused_and_unchanged(NoStep, board, board.fire, name, 0)

    def test_what_is_no_turn(self):
        for turns in (1, 3, 199):
            board = filled(ADD, turns, ("a", 0, 1), ("b", 0, 1))
            for turn in no_turns(turns):
                self.refused_and_unchanged(NoTurn, board, board.fire, "add", turn)

    def test_what_has_fired(self):
        board = filled(ADD, 2, ("a", 0, 1), ("b", 0, 1), ("a", 1, 1), ("b", 1, 1))
        board.fire("add", 0)
        self.refused_and_unchanged(Fired, board, board.fire, "add", 0)
        board.fire("add", 1)
        self.refused_and_unchanged(Fired, board, board.fire, "add", 0)
        self.refused_and_unchanged(Fired, board, board.fire, "add", 1)

    def test_what_is_not_ready(self):
        plan = (step("x", ("sum",), ("a", "b", "c", "d"), ("e",)),)
        for left_out in "abcd":
            board = filled(plan, 2, *[(place, 1, 1) for place in "abcd" if place != left_out])
            self.refused_and_unchanged(NotReady, board, board.fire, "x", 1)
            self.refused_and_unchanged(NotReady, board, board.fire, "x", 0)
            board.put(left_out, 0, 1)
            self.refused_and_unchanged(NotReady, board, board.fire, "x", 1)
            board.put(left_out, 1, 1)
            board.fire("x", 1)
            self.refused_and_unchanged(NotReady, board, board.fire, "x", 0)

    def test_a_choose_that_is_not_ready(self):
        plan = (step("x", ("choose",), ("a", "b", "c"), ("d",)),)
        for puts in (
            (),
            (("b", 0, 1), ("c", 0, 1)),
            (("a", 0, 0),),
            (("a", 0, 0), ("c", 0, 1)),
            (("a", 0, 1),),
            (("a", 0, 1), ("b", 0, 1)),
            (("a", 1, 0), ("b", 0, 1), ("c", 0, 1)),
        ):
            board = filled(plan, 2, *puts)
            self.refused_and_unchanged(NotReady, board, board.fire, "x", 0)

    def test_which_refusal_is_due_first(self):
        board = filled(ADD, 3, ("a", 0, 1), ("b", 0, 1), ("a", 1, 1))
        board.fire("add", 0)
        for error, name, turn in (
            (NoStep, "x", 3),
            (NoStep, "x", 0),
            (NoStep, None, None),
            (NoStep, True, True),
            (NoStep, "a", -1),
            (NoTurn, "add", 3),
            (NoTurn, "add", False),
            (NoTurn, "add", True),
            (NoTurn, "add", None),
            (Fired, "add", 0),
            (NotReady, "add", 1),
            (NotReady, "add", 2),
        ):
            self.refused_and_unchanged(error, board, board.fire, name, turn)

    def test_fired_is_in_the_order_of_firing(self):
        puts = [(place, turn, 1) for place in "ab" for turn in range(3)]
        plan = (step("one"), step("two", ("sum",), ("a",), ("d",)))
        board = filled(plan, 3, *puts)
        order = [("two", 2), ("one", 1), ("two", 0), ("one", 2), ("one", 0), ("two", 1)]
        for many, pair in enumerate(order):
            self.assertEqual(board.fired(), order[:many])
            board.fire(*pair)
        self.assertEqual(board.fired(), order)


class ReadyTest(BoardTestCase):
    def test_by_the_steps_order_then_by_turns(self):
        plan = (
            step("z", ("sum",), ("a",), ("d",)),
            step("b", ("sum",), ("a",), ("e",)),
            step("a", ("sum",), ("b",), ("f",)),
        )
        board = filled(plan, 200, ("b", 10, 1), ("a", 199, 1), ("a", 9, 1), ("b", 9, 1), ("a", 0, 1), ("a", 10, 1))
        turns = (0, 9, 10, 199)
        self.assertEqual(
            board.ready(),
            [("z", turn) for turn in turns] + [("b", turn) for turn in turns] + [("a", 9), ("a", 10)],
        )

    def test_by_the_steps_order_though_there_are_more_than_ten(self):
        plan = tuple(step("s" + str(k), ("sum",), ("a",), ("p" + str(k),)) for k in reversed(range(20)))
        board = filled(plan, 1, ("a", 0, 1))
        self.assertEqual(board.ready(), [("s" + str(k), 0) for k in reversed(range(20))])

    def test_as_soon_as_all_is_there_in_whatever_order(self):
        plan = (step("x", ("sum",), ("a", "b", "c"), ("d",)),)
        for order in ("abc", "acb", "bac", "bca", "cab", "cba"):
            board = Board(plan, 2)
            for place in order:
                self.assertEqual(board.ready(), [])
                board.put(place, 1, 1)
            self.assertEqual(board.ready(), [("x", 1)])

    def test_needs_of_unlike_turns_do_not_meet(self):
        board = filled(ADD, 3, ("a", 0, 1), ("b", 1, 1))
        self.assertEqual(board.ready(), [])

    def test_what_fires_makes_others_ready(self):
        plan = (step("two", ("sum",), ("c", "d"), ("e",)), step("one", ("sum",), ("a",), ("c", "d")))
        board = filled(plan, 2, ("a", 1, 1))
        self.assertEqual(board.ready(), [("one", 1)])
        board.fire("one", 1)
        self.assertEqual(board.ready(), [("two", 1)])
        board.fire("two", 1)
        self.assertEqual(board.ready(), [])

    def test_a_choose_that_misses_just_what_it_does_not_need(self):
        plan = (step("x", ("choose",), ("a", "b", "c"), ("d",)),)
        for turn in (0, 1):
            self.assertEqual(filled(plan, 2, ("a", turn, 0), ("b", turn, 1)).ready(), [("x", turn)])
            self.assertEqual(filled(plan, 2, ("b", turn, 0), ("a", turn, 0)).ready(), [("x", turn)])
            self.assertEqual(filled(plan, 2, ("a", turn, 5), ("c", turn, 0)).ready(), [("x", turn)])
            self.assertEqual(filled(plan, 2, ("c", turn, 5), ("a", turn, 999999)).ready(), [("x", turn)])

    def test_a_choose_is_not_ready_again_by_what_it_did_not_need(self):
        plan = (step("x", ("choose",), ("a", "b", "c"), ("d",)),)
        board = filled(plan, 1, ("a", 0, 0), ("b", 0, 4))
        board.fire("x", 0)
        board.put("c", 0, 9)
        self.assertEqual(board.ready(), [])
        self.assertEqual(board.fired(), [("x", 0)])
        self.assertEqual(board.told("d"), [(0, 4)])
        self.refused_and_unchanged(Fired, board, board.fire, "x", 0)

    def test_a_choose_that_gives_what_it_does_not_need(self):
        plan = (step("x", ("choose",), ("a", "b", "c"), ("c",)),)
        board = filled(plan, 1, ("a", 0, 0), ("b", 0, 4))
        board.fire("x", 0)
        self.assertEqual(board.told("c"), [(0, 4)])
        self.assertEqual(board.ready(), [])
        self.assertEqual(board.fired(), [("x", 0)])

    def test_a_choose_that_needs_one_place_twice(self):
        plan = (step("x", ("choose",), ("a", "a", "b"), ("c",)),)
        board = filled(plan, 2, ("a", 0, 0), ("a", 1, 1))
        self.assertEqual(board.ready(), [("x", 0)])
        board.put("b", 1, 3)
        self.assertEqual(board.ready(), [("x", 0), ("x", 1)])
        board.fire("x", 0)
        board.fire("x", 1)
        self.assertEqual(board.told("c"), [(0, 0), (1, 3)])


if __name__ == "__main__":
    unittest.main()
