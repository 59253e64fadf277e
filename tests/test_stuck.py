"""Points [10], [11] and [12]: what waits, and why."""

import random
import unittest

from readyfire.boards import Board, run
from readyfire.errors import Fired, IsReady, NoStep, NoTurn
from readyfire.stuck import waiting, why
from tests.helper import (
    ADD, MIXED, NO_NAMES, after_run, attempt, chance_plan, filled, no_turns, places_of, ring, step, told, wheel,
)

CHOOSE = (step("x", ("choose",), ("a", "b", "c"), ("d",)),)
ROW = tuple(step("s" + str(k), ("sum",), ("p" + str(k), "a"), ("p" + str(k + 1),)) for k in range(20))


class WaitingTest(unittest.TestCase):
    def test_a_new_board(self):
        for plan in (ADD, MIXED, wheel(20)):
            for turns in (1, 200):
                self.assertEqual(waiting(Board(plan, turns)), [])

    def test_one_value_of_two(self):
        for place in ("a", "b"):
            for turns, turn in ((1, 0), (200, 0), (200, 199)):
                self.assertEqual(waiting(filled(ADD, turns, (place, turn, 0))), [("add", turn)])

    def test_values_of_unlike_turns(self):
        board = filled(ADD, 3, ("a", 0, 1), ("b", 2, 1))
        self.assertEqual(waiting(board), [("add", 0), ("add", 2)])

    def test_what_is_ready_does_not_wait(self):
        board = filled(ADD, 3, ("a", 1, 1), ("b", 1, 1), ("a", 2, 1))
        self.assertEqual(waiting(board), [("add", 2)])

    def test_what_has_fired_does_not_wait(self):
        board = filled(ADD, 3, ("a", 1, 1), ("b", 1, 1))
        board.fire("add", 1)
        self.assertEqual(waiting(board), [])

    def test_by_the_steps_order_then_by_turns(self):
        plan = (step("z", gives=("d",)), step("b", gives=("e",)), step("a", ("sum",), ("b", "f"), ("g",)))
        board = filled(plan, 200, ("b", 199, 1), ("b", 10, 1), ("a", 9, 1), ("f", 10, 1))
        self.assertEqual(
            waiting(board),
            [("z", 9), ("z", 10), ("z", 199), ("b", 9), ("b", 10), ("b", 199), ("a", 199)],
        )

    def test_a_value_that_a_step_gave(self):
        plan = ADD + (step("next", ("sum",), ("c", "d"), ("e",)),)
        board = filled(plan, 2, ("a", 1, 1), ("b", 1, 1))
        self.assertEqual(waiting(board), [])
        board.fire("add", 1)
        self.assertEqual(waiting(board), [("next", 1)])

    def test_a_later_never_waits(self):
        plan = (step("next", ("later",), ("a",), ("b",)),)
        board = filled(plan, 3, ("b", 0, 1), ("a", 1, 1))
        self.assertEqual(waiting(board), [])
        self.assertEqual(board.ready(), [("next", 1)])

    def test_a_choose_waits_by_each_of_its_needs(self):
        self.assertEqual(waiting(filled(CHOOSE, 2, ("a", 1, 0))), [("x", 1)])
        self.assertEqual(waiting(filled(CHOOSE, 2, ("b", 1, 5))), [("x", 1)])
        self.assertEqual(waiting(filled(CHOOSE, 2, ("c", 1, 5))), [("x", 1)])
        self.assertEqual(waiting(filled(CHOOSE, 2, ("b", 1, 5), ("c", 1, 5))), [("x", 1)])
        self.assertEqual(waiting(filled(CHOOSE, 2, ("a", 1, 0), ("c", 1, 5))), [("x", 1)])
        self.assertEqual(waiting(filled(CHOOSE, 2, ("a", 1, 7), ("b", 1, 5))), [("x", 1)])

    def test_a_choose_that_misses_just_what_it_does_not_need(self):
        for puts in ((("a", 1, 0), ("b", 1, 5)), (("a", 1, 7), ("c", 1, 5))):
            board = filled(CHOOSE, 2, *puts)
            self.assertEqual(waiting(board), [])
            self.assertEqual(board.ready(), [("x", 1)])
            run(board)
            self.assertEqual(waiting(board), [])

    def test_a_step_that_needs_what_it_gives(self):
        board = after_run((step("x", ("sum",), ("a", "c"), ("c",)),), 2, ("a", 1, 5))
        self.assertEqual(waiting(board), [("x", 1)])

    def test_asking_changes_nothing(self):
        board = filled(MIXED, 3, ("a", 0, 1), ("b", 1, 1), ("k", 0, 1))
        ahead = told(board)
        for _ in range(3):
            waiting(board)
        self.assertEqual(told(board), ahead)


class RefusedTest(unittest.TestCase):
    def refused(self, error, board, name, turn):
        ahead = told(board)
        with self.assertRaises(error) as caught:
            why(board, name, turn)
        self.assertIs(caught.exception.__class__, error)
        self.assertEqual(told(board), ahead)

    def test_what_is_no_step(self):
        board = filled(ADD, 3, ("a", 0, 1))
        for name in NO_NAMES + ("a", "c", "sum"):
            self.refused(NoStep, board, name, 0)

    def test_what_is_no_turn(self):
        for turns in (1, 3, 199):
            board = filled(ADD, turns, ("a", 0, 1))
            for turn in no_turns(turns):
                self.refused(NoTurn, board, "add", turn)

    def test_what_has_fired(self):
        board = after_run(ADD, 3, ("a", 2, 1), ("b", 2, 1))
        self.refused(Fired, board, "add", 2)

    def test_a_choose_that_has_fired_without_what_it_did_not_need(self):
        board = after_run(CHOOSE, 1, ("a", 0, 0), ("b", 0, 1))
        self.refused(Fired, board, "x", 0)

    def test_what_is_ready(self):
        board = filled(ADD, 3, ("a", 2, 1), ("b", 2, 1))
        self.refused(IsReady, board, "add", 2)
        self.refused(IsReady, filled(CHOOSE, 1, ("a", 0, 0), ("b", 0, 1)), "x", 0)

    def test_which_refusal_is_due_first(self):
        board = filled(ADD, 3, ("a", 0, 1), ("b", 0, 1), ("a", 1, 1), ("b", 1, 1))
        board.fire("add", 0)
        for error, name, turn in (
            (NoStep, "x", 3),
            (NoStep, None, None),
            (NoStep, True, True),
            (NoStep, "a", 0),
            (NoTurn, "add", 3),
            (NoTurn, "add", -1),
            (NoTurn, "add", False),
            (NoTurn, "add", True),
            (Fired, "add", 0),
            (IsReady, "add", 1),
        ):
            self.refused(error, board, name, turn)


class WhyTest(unittest.TestCase):
    def told_why(self, board, name, turn, links, end):
        answer = why(board, name, turn)
        self.assertIs(answer.__class__, tuple)
        self.assertEqual(answer, (links, end))
        self.assertIs(answer[0].__class__, list)
        self.assertEqual({link.__class__ for link in answer[0]}, {tuple})
        self.assertIs(answer[1].__class__, tuple)

    def test_outside(self):
        for turns, turn in ((1, 0), (200, 0), (200, 199)):
            self.told_why(Board(ADD, turns), "add", turn, [("add", turn, "a")], ("outside",))
            self.told_why(filled(ADD, turns, ("b", turn, 0)), "add", turn, [("add", turn, "a")], ("outside",))
            self.told_why(filled(ADD, turns, ("a", turn, 0)), "add", turn, [("add", turn, "b")], ("outside",))

    def test_a_value_for_another_turn_is_of_no_use(self):
        board = filled(ADD, 3, ("a", 0, 1), ("a", 2, 1), ("b", 1, 1))
        self.told_why(board, "add", 1, [("add", 1, "a")], ("outside",))

    def test_the_first_need_that_is_not_there(self):
        plan = (step("x", ("most",), ("d", "b", "d", "a"), ("e",)),)
        board = Board(plan, 1)
        self.told_why(board, "x", 0, [("x", 0, "d")], ("outside",))
        board.put("d", 0, 1)
        self.told_why(board, "x", 0, [("x", 0, "b")], ("outside",))
        board.put("b", 0, 1)
        self.told_why(board, "x", 0, [("x", 0, "a")], ("outside",))
        board.put("a", 0, 1)
        self.assertIs(attempt(why, board, "x", 0), IsReady)

    def test_links_from_step_to_step(self):
        for plan in (ROW, ROW[::-1]):
            for turn in (0, 3):
                board = Board(plan, 4)
                links = [("s" + str(k), turn, "p" + str(k)) for k in reversed(range(20))]
                for k in range(20):
                    self.told_why(board, "s" + str(k), turn, links[19 - k:], ("outside",))

    def test_a_link_by_a_later_need(self):
        plan = (step("x", ("sum",), ("a", "c"), ("d",)), step("y", ("sum",), ("b",), ("c",)))
        board = filled(plan, 1, ("a", 0, 1))
        self.told_why(board, "x", 0, [("x", 0, "c"), ("y", 0, "b")], ("outside",))

    def test_first(self):
        plan = (step("next", ("later",), ("a",), ("b",)), step("x", ("sum",), ("b",), ("c",)))
        for turns in (1, 200):
            self.told_why(Board(plan, turns), "x", 0, [("x", 0, "b")], ("first",))

    def test_first_also_where_the_later_has_fired(self):
        plan = (step("next", ("later",), ("a",), ("b",)), step("x", ("sum",), ("b",), ("c",)))
        board = after_run(plan, 2, ("a", 0, 1), ("a", 1, 1))
        self.told_why(board, "x", 0, [("x", 0, "b")], ("first",))

    def test_a_link_goes_by_a_later_to_the_turn_before(self):
        plan = (step("next", ("later",), ("a",), ("b",)), step("x", ("sum",), ("b",), ("c",)))
        for turn in (1, 2, 199):
            board = filled(plan, 200, ("a", turn, 1))
            links = [("x", turn, "b"), ("next", turn - 1, "a")]
            self.told_why(board, "x", turn, links, ("outside",))
            board.put("a", turn - 1, 1)
            self.told_why(board, "x", turn, links[:1], ("ready",))
            board.fire("next", turn - 1)
            self.assertIs(attempt(why, board, "x", turn), IsReady)

    def test_left(self):
        plan = (
            step("sort", ("way",), ("a", "b"), ("c", "d")),
            step("x", ("sum",), ("c",), ("e",)),
            step("y", ("sum",), ("d",), ("f",)),
            step("z", ("sum",), ("e", "f"), ("g",)),
        )
        board = after_run(plan, 2, ("a", 0, 5), ("b", 0, 1), ("a", 1, 5), ("b", 1, 0))
        self.told_why(board, "x", 0, [("x", 0, "c")], ("left",))
        self.told_why(board, "y", 1, [("y", 1, "d")], ("left",))
        self.told_why(board, "z", 0, [("z", 0, "e"), ("x", 0, "c")], ("left",))
        self.told_why(board, "z", 1, [("z", 1, "f"), ("y", 1, "d")], ("left",))
        self.assertIs(attempt(why, board, "x", 1), Fired)

    def test_left_behind_a_later(self):
        plan = (
            step("sort", ("way",), ("a", "b"), ("c", "d")),
            step("next", ("later",), ("c",), ("e",)),
            step("x", ("sum",), ("e",), ("f",)),
        )
        board = after_run(plan, 2, ("a", 0, 5), ("b", 0, 1))
        self.told_why(board, "x", 1, [("x", 1, "e"), ("next", 0, "c")], ("left",))

    def test_ready(self):
        board = filled(ROW, 2, ("p0", 1, 5), *[("a", turn, 1) for turn in range(2)])
        self.told_why(board, "s1", 1, [("s1", 1, "p1")], ("ready",))
        self.told_why(board, "s3", 1, [("s3", 1, "p3"), ("s2", 1, "p2"), ("s1", 1, "p1")], ("ready",))
        board.fire("s0", 1)
        self.told_why(board, "s3", 1, [("s3", 1, "p3"), ("s2", 1, "p2")], ("ready",))

    def test_a_ready_choose_that_misses_what_it_does_not_need(self):
        plan = CHOOSE + (step("y", ("sum",), ("d",), ("e",)),)
        board = filled(plan, 1, ("a", 0, 0), ("b", 0, 1))
        self.told_why(board, "y", 0, [("y", 0, "d")], ("ready",))

    def test_a_choose(self):
        for puts, place in (
            ((), "a"),
            ((("b", 0, 1),), "a"),
            ((("b", 0, 1), ("c", 0, 1)), "a"),
            ((("a", 0, 0),), "b"),
            ((("a", 0, 0), ("c", 0, 1)), "b"),
            ((("a", 0, 1),), "c"),
            ((("a", 0, 999999), ("b", 0, 1)), "c"),
        ):
            self.told_why(filled(CHOOSE, 1, *puts), "x", 0, [("x", 0, place)], ("outside",))

    def test_the_links_follow_what_a_choose_needs(self):
        plan = (
            step("x", ("choose",), ("a", "b", "c"), ("d",)),
            step("y", ("sum",), ("e",), ("b",)),
            step("z", ("sum",), ("f",), ("c",)),
        )
        self.told_why(Board(plan, 1), "x", 0, [("x", 0, "a")], ("outside",))
        self.told_why(filled(plan, 1, ("a", 0, 0)), "x", 0, [("x", 0, "b"), ("y", 0, "e")], ("outside",))
        self.told_why(filled(plan, 1, ("a", 0, 3)), "x", 0, [("x", 0, "c"), ("z", 0, "f")], ("outside",))
        self.told_why(filled(plan, 1, ("a", 0, 3), ("f", 0, 0)), "x", 0, [("x", 0, "c")], ("ready",))

    def test_what_comes_changes_the_answer(self):
        board = filled(ADD, 1, ("a", 0, 1))
        self.told_why(board, "add", 0, [("add", 0, "b")], ("outside",))
        board.put("b", 0, 1)
        self.assertIs(attempt(why, board, "add", 0), IsReady)
        board.fire("add", 0)
        self.assertIs(attempt(why, board, "add", 0), Fired)

    def test_asking_changes_nothing(self):
        board = filled(MIXED, 3, ("a", 0, 1), ("b", 1, 1), ("k", 0, 1))
        ahead = told(board)
        first = why(board, "next", 2)
        self.assertEqual(why(board, "next", 2), first)
        self.assertEqual(told(board), ahead)


class RingTest(unittest.TestCase):
    def test_a_step_that_needs_what_it_gives(self):
        plan = (step("x", ("sum",), ("a", "c"), ("c",)),)
        for turn in (0, 4):
            board = filled(plan, 5, ("a", turn, 1))
            self.assertEqual(why(board, "x", turn), ([("x", turn, "c")], ("ring", 0)))
        self.assertEqual(why(Board(plan, 5), "x", 3), ([("x", 3, "a")], ("outside",)))

    def test_a_choose_that_needs_what_it_gives(self):
        plan = (step("x", ("choose",), ("a", "b", "c"), ("c",)),)
        self.assertEqual(why(filled(plan, 1, ("a", 0, 1)), "x", 0), ([("x", 0, "c")], ("ring", 0)))
        self.assertEqual(why(filled(plan, 1, ("a", 0, 0)), "x", 0), ([("x", 0, "b")], ("outside",)))

    def test_rings_of_all_sizes(self):
        for many in range(1, 21):
            board = filled(ring(many), 2, ("a", 1, 1))
            self.assertEqual(run(board), 0)
            for k in range(many):
                steps = [(k - back) % many for back in range(many)]
                links = [("s" + str(at), 1, "p" + str(at)) for at in steps]
                self.assertEqual(why(board, "s" + str(k), 1), (links, ("ring", 0)))

    def test_a_ring_that_begins_further_on(self):
        tail = tuple(
            step("t" + str(k), ("sum",), ("p2" if k == 0 else "q" + str(k - 1),), ("q" + str(k),)) for k in range(5)
        )
        board = Board(ring(4) + tail, 1)
        links = [("t" + str(k), 0, "q" + str(k - 1)) for k in (4, 3, 2, 1)] + [("t0", 0, "p2")]
        links = links + [("s1", 0, "p1"), ("s0", 0, "p0"), ("s3", 0, "p3"), ("s2", 0, "p2")]
        self.assertEqual(why(board, "t4", 0), (links, ("ring", 5)))
        self.assertEqual(why(board, "t0", 0), (links[4:], ("ring", 1)))

    def test_a_ring_behind_a_later(self):
        plan = ring(2) + (step("next", ("later",), ("p0",), ("b",)), step("x", ("sum",), ("b",), ("c",)))
        board = Board(plan, 200)
        for turn in (1, 199):
            links = [("x", turn, "b"), ("next", turn - 1, "p0"), ("s1", turn - 1, "p1"), ("s0", turn - 1, "p0")]
            self.assertEqual(why(board, "x", turn), (links, ("ring", 2)))
        self.assertEqual(why(board, "x", 0), ([("x", 0, "b")], ("first",)))

    def test_what_is_in_a_ring_waits_and_never_fires(self):
        board = after_run(ring(3), 2, ("a", 0, 1), ("a", 1, 1))
        self.assertEqual(board.fired(), [])
        self.assertEqual(waiting(board), [("s0", 0), ("s0", 1), ("s1", 0), ("s1", 1), ("s2", 0), ("s2", 1)])


class LongWhyTest(unittest.TestCase):
    def wheel_links(self, turn):
        """The links behind those of that turn's first step, down to turn 0."""
        links = []
        for at in reversed(range(turn + 1)):
            links.append(("back", at, "p19"))
            links.extend([("s" + str(k), at, "p" + str(k)) for k in reversed(range(19))])
        return links

    def test_some_thousands_of_links(self):
        for first in (0, 7, 19):
            board = Board(wheel(20, first), 200)
            self.assertEqual(why(board, "back", 199), (self.wheel_links(199), ("first",)))
            self.assertEqual(len(why(board, "back", 199)[0]), 4000)
            self.assertEqual(why(board, "s18", 199), (self.wheel_links(199)[1:], ("first",)))
            self.assertEqual(why(board, "s0", 0), ([("s0", 0, "p0")], ("first",)))

    def test_some_thousands_of_links_up_to_what_is_ready(self):
        board = filled(wheel(20), 200, ("p0", 0, 1))
        links = self.wheel_links(199)
        self.assertEqual(why(board, "back", 199), (links[:-1], ("ready",)))
        board.fire("s0", 0)
        self.assertEqual(why(board, "back", 199), (links[:-2], ("ready",)))

    def test_some_thousands_of_links_up_to_a_ring(self):
        plan = tuple(step("s" + str(k), ("sum",), ("p" + str(k),), ("p" + str(k + 1),)) for k in range(18))
        # The step pick needs what it gives just for turn 0: there a is 1.
        plan = plan + (
            step("pick", ("choose",), ("a", "p18", "c"), ("c", "d")),
            step("back", ("later",), ("d",), ("p0",)),
        )
        board = filled(plan, 200, ("a", 0, 1), *[("a", turn, 0) for turn in range(1, 200)])
        links, end = why(board, "back", 199)
        self.assertEqual(len(links), 199 * 20 + 2)
        self.assertEqual(links[-2:], [("back", 0, "d"), ("pick", 0, "c")])
        self.assertEqual(end, ("ring", 199 * 20 + 1))

    def test_a_chain_of_a_later_that_needs_what_it_gives(self):
        for turns in (1, 2, 200):
            board = Board((step("next", ("later",), ("a",), ("a",)),), turns)
            links = [("next", turn, "a") for turn in reversed(range(turns))]
            self.assertEqual(why(board, "next", turns - 1), (links, ("first",)))

    def test_a_chain_of_laters(self):
        plan = tuple(step("s" + str(k), ("later",), ("p" + str(k),), ("p" + str(k + 1),)) for k in range(20))
        board = Board(plan, 200)
        links = [("s" + str(19 - back), 199 - back, "p" + str(19 - back)) for back in range(20)]
        self.assertEqual(why(board, "s19", 199), (links, ("outside",)))
        shorter = [(name, turn - 181, place) for name, turn, place in links[:19]]
        self.assertEqual(why(board, "s19", 18), (shorter, ("first",)))
        board.put("p0", 180, 1)
        self.assertEqual(why(board, "s19", 199), (links[:-1], ("ready",)))


class NothingReadyTest(unittest.TestCase):
    def shown_rightly(self, board, name, turn):
        links, end = why(board, name, turn)
        self.assertEqual(links[0][:2], (name, turn))
        self.assertEqual(len({link[:2] for link in links}), len(links))
        for at_name, at_turn, place in links:
            self.assertIsNone(board.at(place, at_turn))
            self.assertNotIn((at_name, at_turn), board.fired())
        self.assertIn(end[0], ("outside", "first", "left", "ring"))
        if end[0] == "ring":
            laters = [one[0] for one in board.plan if one[1] == ("later",)]
            rounds = links[end[1]:]
            self.assertNotEqual(rounds, [])
            self.assertEqual([link[0] for link in rounds if link[0] in laters], [])
        return end[0]

    def test_all_that_has_not_fired(self):
        ends = {}
        for seed in range(150):
            chance = random.Random(seed)
            board = Board(chance_plan(chance, 8), chance.randint(1, 4))
            for place in places_of(board.plan):
                for turn in range(board.turns):
                    if chance.random() < 0.7:
                        attempt(board.put, place, turn, chance.choice((0, 1, 2)))
            run(board)
            for name, _, _, _ in board.plan:
                for turn in range(board.turns):
                    if (name, turn) not in board.fired():
                        end = self.shown_rightly(board, name, turn)
                        ends[end] = True
        self.assertEqual(sorted(ends), ["first", "left", "outside", "ring"])


if __name__ == "__main__":
    unittest.main()
