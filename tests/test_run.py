"""Points [7], [8] and [9]: boards that are run, and what comes whatever the order."""

import itertools
import random
import unittest

from readyfire.boards import Board, run
from readyfire.errors import Fired
from readyfire.stuck import waiting
from tests.helper import ADD, MIXED, Model, attempt, chance_plan, filled, places_of, step, told, wheel

MIXED_PUTS = (
    ("a", 0, 5), ("a", 1, 6), ("a", 2, 7), ("a", 3, 8),
    ("b", 0, 0), ("b", 1, 3), ("b", 2, 0), ("b", 3, 0),
    ("k", 0, 2),
)


def values_of(board):
    return {place: board.told(place) for place in places_of(board.plan)}


def state(board):
    """What has come and what has fired, whatever the order in which it fired."""
    return values_of(board), sorted(board.fired())


class RunTest(unittest.TestCase):
    def test_where_nothing_is_ready(self):
        for plan in (ADD, MIXED, wheel(20)):
            for turns in (1, 200):
                board = Board(plan, turns)
                self.assertEqual(run(board), 0)
                self.assertEqual(board.fired(), [])

    def test_it_tells_how_many_have_fired_by_it(self):
        board = filled(ADD, 5, ("a", 0, 1), ("b", 0, 1), ("a", 3, 1), ("b", 3, 1), ("a", 4, 1), ("b", 4, 1))
        board.fire("add", 3)
        self.assertEqual(run(board), 2)
        self.assertEqual(run(board), 0)
        self.assertEqual(board.ready(), [])
        self.assertEqual(sorted(board.fired()), [("add", 0), ("add", 3), ("add", 4)])
        self.assertEqual(board.fired()[0], ("add", 3))

    def test_it_fires_what_is_ready_then(self):
        plan = tuple(step("s" + str(k), ("sum",), ("p" + str(k),), ("p" + str(k + 1),)) for k in range(20))
        for steps in (plan, plan[::-1]):
            board = filled(steps, 2, ("p0", 1, 999999))
            self.assertEqual(run(board), 20)
            self.assertEqual(board.told("p20"), [(1, 999999)])
            self.assertEqual(board.fired(), [("s" + str(k), 1) for k in range(20)])

    def test_run_put_and_run_again(self):
        board = filled(MIXED, 4, *MIXED_PUTS[:5])
        first = run(board)
        for put in MIXED_PUTS[5:]:
            board.put(*put)
        second = run(board)
        self.assertEqual(first + second, len(board.fired()))
        self.assertEqual(state(board), state(self.run_at_once()))

    def run_at_once(self):
        board = filled(MIXED, 4, *MIXED_PUTS)
        run(board)
        return board

    def test_the_values_of_a_mixed_plan(self):
        board = self.run_at_once()
        self.assertEqual(board.told("c"), [(0, 5), (2, 7), (3, 8)])
        self.assertEqual(board.told("d"), [(1, 6)])
        # Turn 0: e = 5 + 5 + 2, and b is 0, so h = e = 12, which is k at turn 1.
        # Turn 1: d = 6, f = 6 * 12 = 72, and b is 3, so h = f.
        # Turn 2: e = 7 + 7 + 72 = 86; turn 3: e = 8 + 8 + 86 = 102.
        self.assertEqual(board.told("e"), [(0, 12), (2, 86), (3, 102)])
        self.assertEqual(board.told("f"), [(1, 72)])
        self.assertEqual(board.told("g"), [(1, 72)])
        self.assertEqual(board.told("h"), [(0, 12), (1, 72), (2, 86), (3, 102)])
        self.assertEqual(board.told("k"), [(0, 2), (1, 12), (2, 72), (3, 86)])
        self.assertEqual(board.told("l"), [(0, 2), (1, 12), (2, 72), (3, 86)])
        self.assertEqual(board.told("m"), [(0, 12), (1, 72), (2, 86), (3, 102)])
        self.assertEqual(board.told("n"), [(0, 7), (1, 7), (2, 7), (3, 7)])
        # mul waits for turn 0 and 2 and 3, add for turn 1.
        self.assertEqual(len(board.fired()), 8 * 4 - 4)
        self.assertEqual(waiting(board), [("add", 1), ("mul", 0), ("mul", 2), ("mul", 3)])
        self.assertEqual(board.ready(), [])


class LongRunTest(unittest.TestCase):
    def test_some_thousands_of_fires_that_come_of_one_another(self):
        for first in (0, 7, 19):
            board = filled(wheel(20, first), 200, ("p0", 0, 1))
            self.assertEqual(board.ready(), [("s0", 0)])
            self.assertEqual(run(board), 4000)
            self.assertEqual(run(board), 0)
            self.assertEqual(board.told("p0"), [(turn, pow(2, turn, 1000000)) for turn in range(200)])
            self.assertEqual(board.told("p19"), [(turn, pow(2, turn + 1, 1000000)) for turn in range(200)])
            names = ["s" + str(k) for k in range(19)] + ["back"]
            self.assertEqual(board.fired(), [(name, turn) for turn in range(200) for name in names])

    def test_of_fewer_turns(self):
        for turns in (1, 2, 199):
            board = filled(wheel(20), turns, ("p0", 0, 1))
            self.assertEqual(run(board), 20 * turns)

    def test_some_thousands_that_are_ready_at_once(self):
        plan = tuple(step("s" + str(k), ("sum",), ("a",), ("p" + str(k),)) for k in range(20))
        board = filled(plan, 200, *[("a", turn, turn) for turn in range(200)])
        self.assertEqual(len(board.ready()), 4000)
        self.assertEqual(run(board), 4000)
        self.assertEqual(sorted(set(board.fired())), sorted(board.fired()))
        self.assertEqual(board.told("p19"), [(turn, turn) for turn in range(200)])

    def test_fired_one_by_one(self):
        board = filled(wheel(20), 200, ("p0", 0, 0))
        for _ in range(4000):
            pairs = board.ready()
            self.assertEqual(len(pairs), 1)
            board.fire(*pairs[0])
        self.assertEqual(board.ready(), [])
        self.assertEqual(len(board.fired()), 4000)


class AnyOrderTest(unittest.TestCase):
    def played(self, plan, turns, puts, chance):
        """The board after the puts in a chance order, with chance fires among them."""
        board = Board(plan, turns)
        left = list(puts)
        chance.shuffle(left)
        while left or board.ready():
            pairs = board.ready()
            if pairs and (not left or chance.random() < 0.5):
                pair = chance.choice(pairs)
                board.fire(*pair)
                self.assertIs(attempt(board.fire, *pair), Fired)
            else:
                board.put(*left.pop())
        return board

    def same_whatever_the_order(self, plan, turns, puts, chance):
        board = filled(plan, turns, *puts)
        run(board)
        for _ in range(6):
            other = self.played(plan, turns, puts, chance)
            self.assertEqual(state(other), state(board))
            self.assertEqual(told(other)[3:], told(board)[3:])
            self.assertEqual(len(set(other.fired())), len(other.fired()))
            self.assertEqual(run(other), 0)

    def test_every_order_of_puts(self):
        puts = [("a", 0, 5), ("b", 0, 0), ("k", 0, 2), ("b", 1, 3), ("a", 1, 6)]
        board = filled(MIXED, 2, *puts)
        run(board)
        for order in itertools.permutations(puts):
            put_first = filled(MIXED, 2, *order)
            run(put_first)
            self.assertEqual(state(put_first), state(board))
            run_between = Board(MIXED, 2)
            for put in order:
                run_between.put(*put)
                run(run_between)
            self.assertEqual(state(run_between), state(board))

    def test_a_mixed_plan(self):
        chance = random.Random(1)
        self.same_whatever_the_order(MIXED, 4, MIXED_PUTS, chance)
        for many in range(len(MIXED_PUTS)):
            self.same_whatever_the_order(MIXED, 4, MIXED_PUTS[:many], chance)
            self.same_whatever_the_order(MIXED, 4, MIXED_PUTS[many:], chance)

    def test_many_plans(self):
        for seed in range(80):
            chance = random.Random(seed)
            plan = chance_plan(chance, 8)
            turns = chance.randint(1, 4)
            model = Model(plan, turns)
            puts = []
            for place in places_of(plan):
                for turn in range(turns):
                    put = (place, turn, chance.choice((0, 0, 1, 2, 999999)))
                    if chance.random() < 0.8 and model.put(*put) is None:
                        puts.append(put)
            with self.subTest(seed=seed):
                self.same_whatever_the_order(plan, turns, puts, chance)


class ModelTest(unittest.TestCase):
    """Whatever is done, the board answers as the document's words do, as plainly told in Model."""

    def put_or_fire(self, chance, board, model):
        turn = chance.randint(-1, board.turns)
        if chance.random() < 0.5:
            put = (chance.choice(places_of(board.plan) + ["x"]), turn, chance.choice((0, 0, 1, 2, 999999, -1)))
            self.assertIs(attempt(board.put, *put), model.put(*put))
        else:
            pairs = board.ready() + [(chance.choice(board.plan)[0], turn), ("x", turn)]
            pair = chance.choice(pairs)
            self.assertIs(attempt(board.fire, *pair), model.fire(*pair))

    def test_many_plans(self):
        for seed in range(80):
            chance = random.Random(seed)
            plan = chance_plan(chance, 6)
            turns = chance.randint(1, 4)
            board = Board(plan, turns)
            model = Model(plan, turns)
            with self.subTest(seed=seed):
                for _ in range(40):
                    self.put_or_fire(chance, board, model)
                    self.assertEqual(told(board), model.told())

    def test_a_mixed_plan(self):
        chance = random.Random(5)
        board = Board(MIXED, 3)
        model = Model(MIXED, 3)
        for _ in range(150):
            self.put_or_fire(chance, board, model)
            self.assertEqual(told(board), model.told())


if __name__ == "__main__":
    unittest.main()
