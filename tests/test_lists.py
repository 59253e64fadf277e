"""Points [1] and [14]: nothing handed in is changed, and every list that is answered is the asker's own."""

import unittest

from readyfire.boards import Board, run
from readyfire.errors import FireError
from readyfire.plans import is_plan, outside
from readyfire.stuck import waiting, why
from readyfire.texts import read, shown
from tests.helper import ADD, MIXED, NO_NAMES, NO_VALUES, attempt, filled, no_turns, places_of, step, told, wheel

PUTS = (("a", 0, 5), ("b", 0, 0), ("k", 0, 2), ("b", 1, 3), ("a", 2, 1))


def played():
    """A board on which something has fired, something is ready and something waits."""
    board = filled(MIXED, 3, *PUTS)
    board.fire("sort", 0)
    board.fire("add", 0)
    return board


def all_lists(board):
    """Each list that the board answers, by a word of its own."""
    lists = {"ready": board.ready(), "fired": board.fired(), "waiting": waiting(board), "outside": outside(board.plan)}
    for place in places_of(board.plan):
        lists["told " + place] = board.told(place)
    for name, _, _, _ in board.plan:
        for turn in range(board.turns):
            answer = attempt(why, board, name, turn)
            if isinstance(answer, tuple):
                lists["why " + name + " " + str(turn)] = answer[0]
    return lists


def copies(lists):
    return {word: list(pairs) for word, pairs in lists.items()}


def spoil_by_clearing(pairs):
    pairs.clear()


def spoil_by_adding(pairs):
    pairs.append(("add", 0))
    pairs.insert(0, ("x", 199))


def spoil_by_changing(pairs):
    for k in range(len(pairs)):
        pairs[k] = (2, 999)


def spoil_by_turning(pairs):
    pairs.reverse()
    pairs.extend(list(pairs))


SPOILS = (spoil_by_clearing, spoil_by_adding, spoil_by_changing, spoil_by_turning)


class OwnListsTest(unittest.TestCase):
    def test_they_are_lists_of_tuples(self):
        lists = all_lists(played())
        self.assertGreater(len(lists), 20)
        for word, pairs in lists.items():
            with self.subTest(word):
                self.assertIs(pairs.__class__, list)
                if word != "outside":
                    self.assertEqual({pair.__class__ for pair in pairs} - {tuple}, set())

    def test_each_kind_of_list_holds_something(self):
        lists = all_lists(played())
        for word in ("ready", "fired", "waiting", "outside", "told a", "told c", "why mul 0"):
            with self.subTest(word):
                self.assertNotEqual(lists[word], [])

    def test_asked_again_they_are_other_lists(self):
        board = played()
        first = all_lists(board)
        second = all_lists(board)
        for word in first:
            with self.subTest(word):
                self.assertEqual(first[word], second[word])
                self.assertIsNot(first[word], second[word])

    def test_what_is_done_to_them_changes_no_board(self):
        for spoil in SPOILS:
            board = played()
            ahead = told(board)
            lists = all_lists(board)
            kept = copies(lists)
            for pairs in lists.values():
                spoil(pairs)
            self.assertEqual(told(board), ahead)
            self.assertEqual(all_lists(board), kept)

    def test_what_is_done_to_them_changes_nothing_that_comes_later(self):
        expected = played()
        run(expected)
        for spoil in SPOILS:
            board = played()
            for pairs in all_lists(board).values():
                spoil(pairs)
            self.assertEqual(run(board), len(expected.fired()) - 2)
            self.assertEqual(told(board), told(expected))

    def test_nothing_that_is_done_or_asked_later_changes_them(self):
        board = played()
        lists = all_lists(board)
        kept = copies(lists)
        told(board)
        self.assertEqual(lists, kept)
        for put in (("b", 2, 1), ("a", 1, 9)):
            board.put(*put)
            self.assertEqual(lists, kept)
        while board.ready():
            board.fire(*board.ready()[-1])
            self.assertEqual(lists, kept)
        run(board)
        self.assertEqual(lists, kept)

    def test_the_lists_of_a_new_board(self):
        board = Board(ADD, 2)
        for spoil in SPOILS:
            for pairs in all_lists(board).values():
                spoil(pairs)
            self.assertEqual(told(board), told(Board(ADD, 2)))

    def test_links_of_one_asker_are_not_those_of_another(self):
        board = Board(wheel(20), 200)
        first = why(board, "back", 199)
        kept = list(first[0])
        second = why(board, "back", 199)
        second[0].clear()
        self.assertEqual(first[0], kept)
        self.assertEqual(why(board, "back", 199), (kept, ("first",)))

    def test_boards_of_one_plan_share_no_list(self):
        one = played()
        two = played()
        for pairs in all_lists(one).values():
            pairs.clear()
        run(one)
        self.assertEqual(told(two), told(played()))


class HandedInTest(unittest.TestCase):
    def test_a_plan_stays_as_it_was(self):
        plan = tuple(MIXED)
        written = repr(plan)
        board = filled(plan, 3, *PUTS)
        run(board)
        told(board)
        self.assertIs(is_plan(plan), True)
        self.assertEqual(read(shown(plan)), plan)
        self.assertEqual(repr(plan), written)

    def test_the_same_again_comes_of_the_same(self):
        one = played()
        two = played()
        self.assertEqual(told(one), told(two))
        self.assertEqual(run(one), run(two))
        self.assertEqual(told(one), told(two))
        self.assertEqual(one.fired(), two.fired())


class StrangeThingsTest(unittest.TestCase):
    """Numbers, truth values, texts and None, wherever a board is handed them: refused, or taken as told."""

    def test_all_together(self):
        board = filled((step("add", ("sum",), ("a", "b"), ("c",)),), 2, ("a", 0, 1))
        ahead = told(board)
        for name in NO_NAMES:
            for turn in no_turns(2) + (0, 1):
                self.assertTrue(issubclass(attempt(board.at, name, turn), FireError))
                self.assertTrue(issubclass(attempt(board.fire, name, turn), FireError))
                self.assertTrue(issubclass(attempt(why, board, name, turn), FireError))
                for value in NO_VALUES + (0, 5):
                    self.assertTrue(issubclass(attempt(board.put, name, turn, value), FireError))
        self.assertEqual(told(board), ahead)


if __name__ == "__main__":
    unittest.main()
