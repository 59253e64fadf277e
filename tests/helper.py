"""What several tests use: plans, all that a board tells, and a slow model of the document."""

from readyfire import errors
from readyfire.boards import Board, run
from readyfire.rules import is_value
from readyfire.stuck import waiting, why

ENDLESS = 10 ** 5000
NO_NAMES = ("", "x", "A", "a ", " a", "abcdefghi", "->", "0", None, True, False, 0, 1, -1, 0.5, ENDLESS)
NO_VALUES = (-1, 0.0, 5.0, 1000000, -999999, ENDLESS, -ENDLESS, True, False, None, "", "5", "a")


def no_turns(turns):
    """What is no turn of a board of so many turns."""
    return (-1, 0.0, 0.5, turns, turns + 1, 200, 1000, ENDLESS, -ENDLESS, True, False, None, "", "0", "a")


def step(name="add", rule=("sum",), needs=("a", "b"), gives=("c",)):
    return (name, rule, needs, gives)


ADD = (step(),)

# One of each rule, with a place needed twice, places that nothing needs, and a loop by a later.
MIXED = (
    step("sort", ("way",), ("a", "b"), ("c", "d")),
    step("add", ("sum",), ("c", "c", "k"), ("e",)),
    step("mul", ("times",), ("d", "k"), ("f", "g")),
    step("pick", ("choose",), ("b", "e", "f"), ("h",)),
    step("next", ("later",), ("h",), ("k",)),
    step("low", ("least",), ("h", "k"), ("l",)),
    step("high", ("most",), ("h", "k"), ("m",)),
    step("seven", ("fixed", 7), ("h",), ("n",)),
)


def wheel(many, first=0):
    """So many steps, one behind the other, and a later that leads back to the first place.

    The first one doubles, so the value at p0 is 2 to the turn, if a 1 was put there.
    """
    steps = []
    for k in range(many - 1):
        needs = ("p0", "p0") if k == 0 else ("p" + str(k),)
        steps.append(("s" + str(k), ("sum",), needs, ("p" + str(k + 1),)))
    steps.append(("back", ("later",), ("p" + str(many - 1),), ("p0",)))
    return tuple(steps[first:] + steps[:first])


def ring(many):
    """So many steps, each of which needs what the one ahead of it gives, all around."""
    return tuple(
        ("s" + str(k), ("sum",), ("p" + str(k), "a"), ("p" + str((k + 1) % many),)) for k in range(many)
    )


def filled(plan, turns, *puts):
    """A board to which that was put."""
    board = Board(plan, turns)
    for put in puts:
        board.put(*put)
    return board


def after_run(plan, turns, *puts):
    board = filled(plan, turns, *puts)
    run(board)
    return board


def places_of(plan):
    return sorted({place for _, _, needs, gives in plan for place in needs + gives})


def attempt(call, *arguments):
    """What a call answers, or the class of its refusal."""
    try:
        return call(*arguments)
    except errors.FireError as refusal:
        return refusal.__class__


def told(board):
    """All that a board tells of itself."""
    return (
        {place: board.told(place) for place in places_of(board.plan)},
        board.ready(),
        board.fired(),
        waiting(board),
        [attempt(why, board, name, turn) for name, _, _, _ in board.plan for turn in range(board.turns)],
    )


class Model:
    """The document's words, as slowly and plainly as they stand there."""

    def __init__(self, plan, turns):
        self.plan = plan
        self.turns = turns
        self.there = {}
        self.order = []

    def step(self, name):
        found = [one for one in self.plan if one[0] == name]
        return found[0] if found else None

    def giver(self, place):
        found = [one for one in self.plan if place in one[3]]
        return found[0] if found else None

    def is_turn(self, turn):
        return isinstance(turn, int) and not isinstance(turn, bool) and 0 <= turn < self.turns

    def put(self, place, turn, value):
        if place not in places_of(self.plan):
            return errors.NoPlace
        if not self.is_turn(turn):
            return errors.NoTurn
        giver = self.giver(place)
        if giver is not None and (giver[1] != ("later",) or turn != 0):
            return errors.NoPlace
        if not is_value(value):
            return errors.NoValue
        if (place, turn) in self.there:
            return errors.TokenThere
        self.there[(place, turn)] = value
        return None

    def misses(self, one, turn):
        _, rule, needs, _ = one
        if rule == ("choose",):
            first = self.there.get((needs[0], turn))
            if first is None:
                return needs[0]
            needs = (needs[1],) if first == 0 else (needs[2],)
        absent = [place for place in needs if (place, turn) not in self.there]
        return absent[0] if absent else None

    def is_ready(self, one, turn):
        return (one[0], turn) not in self.order and self.misses(one, turn) is None

    def given(self, one, turn):
        _, rule, needs, gives = one
        at = [self.there.get((place, turn)) for place in needs]
        if rule == ("way",):
            return {gives[0]: at[0]} if at[1] == 0 else {gives[1]: at[0]}
        if rule == ("sum",):
            value = sum(at) % 1000000
        elif rule == ("times",):
            value = 1
            for one_value in at:
                value *= one_value
            value %= 1000000
        elif rule == ("least",):
            value = sorted(at)[0]
        elif rule == ("most",):
            value = sorted(at)[-1]
        elif rule == ("later",):
            value = at[0]
        elif rule == ("choose",):
            value = at[1] if at[0] == 0 else at[2]
        else:
            value = rule[1]
        return {place: value for place in gives}

    def fire(self, name, turn):
        one = self.step(name)
        if one is None:
            return errors.NoStep
        if not self.is_turn(turn):
            return errors.NoTurn
        if (name, turn) in self.order:
            return errors.Fired
        if not self.is_ready(one, turn):
            return errors.NotReady
        self.order.append((name, turn))
        to = turn + 1 if one[1] == ("later",) else turn
        if to < self.turns:
            for place, value in self.given(one, turn).items():
                assert (place, to) not in self.there
                self.there[(place, to)] = value
        return None

    def pairs(self, test):
        return [(one[0], turn) for one in self.plan for turn in range(self.turns) if test(one, turn)]

    def is_waiting(self, one, turn):
        if (one[0], turn) in self.order or self.is_ready(one, turn):
            return False
        return any((place, turn) in self.there for place in one[2])

    def why(self, name, turn):
        one = self.step(name)
        if (name, turn) in self.order:
            return errors.Fired
        if self.is_ready(one, turn):
            return errors.IsReady
        links = []
        while True:
            place = self.misses(one, turn)
            links.append((one[0], turn, place))
            one = self.giver(place)
            if one is None:
                return links, ("outside",)
            if one[1] == ("later",):
                turn = turn - 1
            if turn < 0:
                return links, ("first",)
            if (one[0], turn) in self.order:
                return links, ("left",)
            if self.is_ready(one, turn):
                return links, ("ready",)
            known = [link[:2] for link in links]
            if (one[0], turn) in known:
                return links, ("ring", known.index((one[0], turn)))

    def told(self):
        """As told of a board."""
        return (
            {
                place: [(turn, self.there[(place, turn)]) for turn in range(self.turns) if (place, turn) in self.there]
                for place in places_of(self.plan)
            },
            self.pairs(self.is_ready),
            list(self.order),
            self.pairs(self.is_waiting),
            [self.why(one[0], turn) for one in self.plan for turn in range(self.turns)],
        )


def some_of(chance, names, many):
    return tuple(chance.choice(names) for _ in range(many))


def chance_plan(chance, most_steps):
    """A plan made by a random source that the caller has set to a known start."""
    names = ["p" + str(k) for k in range(chance.randint(3, 3 + 2 * most_steps))]
    free = list(names)
    chance.shuffle(free)
    steps = []
    for k in range(chance.randint(1, most_steps)):
        word = chance.choice(("sum", "times", "least", "most", "fixed", "later", "way", "choose", "later", "way"))
        rule = ("fixed", chance.choice((0, 1, 999999))) if word == "fixed" else (word,)
        needs = some_of(chance, names, {"later": 1, "way": 2, "choose": 3}.get(word, chance.randint(1, 4)))
        many = 2 if word == "way" else chance.randint(1, 3)
        gives, free = free[:many], free[many:]
        if len(gives) == many:
            steps.append(("s" + str(k), rule, needs, tuple(gives)))
    return tuple(steps) if steps else ADD
