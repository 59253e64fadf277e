"""Boards: values come to places, turn by turn, and steps fire when all they need is there."""

from readyfire.errors import Fired, NoPlace, NoPlan, NoStep, NoTurn, NotReady, NoValue, TokenThere
from readyfire.plans import all_places, is_later, is_plan
from readyfire.rules import chosen_at, is_value, is_whole, outcome

MOST_TURNS = 200


class Board:
    """A plan at work: what is at its places, and which steps have fired, for each turn."""

    def __init__(self, plan, turns):
        if not is_plan(plan):
            raise NoPlan("this is no plan")
        if not is_whole(turns) or not 1 <= turns <= MOST_TURNS:
            raise NoTurn("a board has 1 to 200 turns")
        places = all_places(plan)
        self.plan = plan
        self.turns = turns
        # Of each step's name where in the plan it stands; below, steps are told by that.
        self.ranks = {step[0]: rank for rank, step in enumerate(plan)}
        self.givers = {place: rank for rank, step in enumerate(plan) for place in step[3]}
        self.needers = {
            place: [rank for rank, step in enumerate(plan) if place in step[2]] for place in places
        }
        # Of each place a dict of turns and values.
        self.tokens = {place: {} for place in places}
        # Both are dicts of True: done by pairs of a name and a turn, in the order of firing;
        # due, which holds all that is ready, by pairs of a step's rank and a turn.
        self.done = {}
        self.due = {}

    def put(self, place, turn, value):
        """Let a value come from outside."""
        self.check_place(place)
        self.check_turn(turn)
        if not self.takes_put(place, turn):
            raise NoPlace("a step gives to this place for this turn")
        if not is_value(value):
            raise NoValue("this is no value")
        if turn in self.tokens[place]:
            raise TokenThere("a value is there for this turn")
        self.come(place, turn, value)

    def fire(self, name, turn):
        """Fire a step that is ready for the turn."""
        step = self.unfired(name, turn)
        if self.missing(step, turn) is not None:
            raise NotReady("not all that the step needs is there for this turn")
        _, rule, needs, gives = step
        # A choose may fire without the value of the need that it does not need.
        values = [self.tokens[place].get(turn) for place in needs]
        self.done[(name, turn)] = True
        del self.due[(self.ranks[name], turn)]
        given_turn = turn + 1 if is_later(step) else turn
        if given_turn == self.turns:
            return
        for place, value in zip(gives, outcome(rule, values, len(gives))):
            if value is not None:
                self.come(place, given_turn, value)

    def at(self, place, turn):
        """The value at a place for a turn, or None."""
        self.check_place(place)
        self.check_turn(turn)
        return self.tokens[place].get(turn)

    def told(self, place):
        """The pairs of a turn and the value that is there for it, by turns."""
        self.check_place(place)
        return sorted(self.tokens[place].items())

    def ready(self):
        """The pairs of a step's name and a turn of all that is ready."""
        return [(self.plan[rank][0], turn) for rank, turn in sorted(self.due)]

    def fired(self):
        """The pairs of a step's name and a turn of all that has fired, in that order."""
        return list(self.done)

    def check_place(self, place):
        """Refuse what is no place of the plan."""
        if place not in self.tokens:
            raise NoPlace("this is no place of the plan")

    def check_turn(self, turn):
        """Refuse what is no turn of the board."""
        if not is_whole(turn) or not 0 <= turn < self.turns:
            raise NoTurn("this is no turn of the board")

    def takes_put(self, place, turn):
        """Tell whether a value for that turn comes to the place from outside."""
        giver = self.giver(place)
        return giver is None or (is_later(giver) and turn == 0)

    def come(self, place, turn, value):
        """Lay down a value, and note what is ready by it."""
        self.tokens[place][turn] = value
        for rank in self.needers[place]:
            step = self.plan[rank]
            # A choose may have fired before the value that it did not need comes.
            if not self.has_fired(step, turn) and self.missing(step, turn) is None:
                self.due[(rank, turn)] = True

    def unfired(self, name, turn):
        """The step of that name; refuses what is no step, no turn, or has fired for it."""
        if name not in self.ranks:
            raise NoStep("this is no step's name")
        self.check_turn(turn)
        step = self.plan[self.ranks[name]]
        if self.has_fired(step, turn):
            raise Fired("the step has fired for this turn")
        return step

    def has_fired(self, step, turn):
        """Tell whether a step has fired for a turn."""
        return (step[0], turn) in self.done

    def giver(self, place):
        """The step that gives to a place; None where it is from outside."""
        if place not in self.givers:
            return None
        return self.plan[self.givers[place]]

    def missing(self, step, turn):
        """The first place where a value that the step needs isn't there; None where all are."""
        for place in self.needed(step, turn):
            if turn not in self.tokens[place]:
                return place
        return None

    def needed(self, step, turn):
        """The places that the step needs for the turn, as far as what is there shows."""
        rule, needs = step[1], step[2]
        if rule[0] != "choose":
            return needs
        first = self.tokens[needs[0]].get(turn)
        if first is None:
            # It shows by the first value which of the other two is needed.
            return needs[:1]
        return (needs[0], needs[chosen_at(first)])


def run(board):
    """Fire all that is ready, and what is ready then, till nothing is; tell how many fired."""
    many = 0
    batch = board.ready()
    while batch:
        for name, turn in batch:
            board.fire(name, turn)
        many += len(batch)
        batch = board.ready()
    return many
