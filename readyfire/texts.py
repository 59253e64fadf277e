"""Plans as texts: each step in a row of its own."""

from readyfire.errors import NoText
from readyfire.plans import is_plan

ARROW = "->"
FIGURES = "0123456789"
# A value has six figures at most; Python itself refuses to read numbers of some thousands.
MOST_FIGURES = 6


def shown_row(step):
    """The row of a step, with its line end."""
    name, rule, needs, gives = step
    words = [name]
    words.extend([str(part) for part in rule])
    words.extend([*needs, ARROW, *gives])
    return " ".join(words) + "\n"


def shown(plan):
    """The text of a plan."""
    return "".join([shown_row(step) for step in plan])


def is_number(word):
    """Tell whether a word is a number in figures, without a nought ahead."""
    if not 1 <= len(word) <= MOST_FIGURES or not all(sign in FIGURES for sign in word):
        return False
    return word == "0" or word[0] != "0"


def split_rule(words):
    """The rule at the head of the words, and the words behind it."""
    if words[:1] != ["fixed"]:
        return (tuple(words[:1]), words[1:])
    if len(words) < 2 or not is_number(words[1]):
        raise NoText("behind fixed stands no number")
    return (("fixed", int(words[1])), words[2:])


def read_row(row):
    """What a row without its line end says, as a step or as a tuple that is none."""
    # Of two blanks side by side comes an empty word, which is nowhere right.
    words = row.split(" ")
    if words.count(ARROW) != 1:
        raise NoText("a row has one arrow")
    at = words.index(ARROW)
    rule, needs = split_rule(words[1:at])
    return (words[0], rule, tuple(needs), tuple(words[at + 1:]))


def read(text):
    """The plan of which that is the text."""
    rows = text.split("\n")
    if rows[-1] != "":
        raise NoText("behind the last row stands no line end")
    plan = tuple([read_row(row) for row in rows[:-1]])
    if not is_plan(plan):
        raise NoText("the rows make no plan")
    return plan
