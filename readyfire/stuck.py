"""What waits, and why: by links from step to step, and the end at which they stop."""

from readyfire.errors import IsReady
from readyfire.plans import is_later


def waits(board, step, turn):
    """Tell whether a step waits for a turn."""
    if board.has_fired(step, turn) or board.missing(step, turn) is None:
        return False
    # All the needs: a value counts also where a choose may not need it.
    return any(board.at(place, turn) is not None for place in step[2])


def waiting(board):
    """The pairs of a step's name and a turn of all that waits, by the steps, then by turns."""
    return [(step[0], turn) for step in board.plan for turn in range(board.turns) if waits(board, step, turn)]


def giving_turn(giver, turn):
    """The turn for which a step fires where it gives for that turn; -1 where it never does."""
    return turn - 1 if is_later(giver) else turn


def end_behind(board, place, turn, found):
    """The end behind a link of that place and turn, or None where one more link comes."""
    giver = board.giver(place)
    if giver is None:
        return ("outside",)
    fires_for = giving_turn(giver, turn)
    if fires_for < 0:
        return ("first",)
    if board.has_fired(giver, fires_for):
        return ("left",)
    if board.missing(giver, fires_for) is None:
        return ("ready",)
    pair = (giver[0], fires_for)
    if pair in found:
        return ("ring", found[pair])
    return None


def why(board, name, turn):
    """Why a step isn't ready for a turn: the list of links, and the end."""
    step = board.unfired(name, turn)
    place = board.missing(step, turn)
    if place is None:
        raise IsReady("the step is ready for this turn")
    links = [(name, turn, place)]
    # Of each link's step and turn where among the links it stands.
    found = {(name, turn): 0}
    end = end_behind(board, place, turn, found)
    while end is None:
        step = board.giver(place)
        turn = giving_turn(step, turn)
        place = board.missing(step, turn)
        found[(step[0], turn)] = len(links)
        links.append((step[0], turn, place))
        end = end_behind(board, place, turn, found)
    return (links, end)
