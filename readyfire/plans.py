"""Plans: what is one, and which of its places are from outside."""

from readyfire.rules import is_value

LETTERS = "abcdefghijklmnopqrstuvwxyz"
LETTERS_AND_FIGURES = "abcdefghijklmnopqrstuvwxyz0123456789"
MOST_SIGNS = 8
MOST_STEPS = 20

# Of each rule's word: the least and the most needs, the least and the most gives.
COUNTS = {
    "sum": (1, 4, 1, 3),
    "times": (1, 4, 1, 3),
    "least": (1, 4, 1, 3),
    "most": (1, 4, 1, 3),
    "fixed": (1, 4, 1, 3),
    "later": (1, 1, 1, 3),
    "way": (2, 2, 2, 2),
    "choose": (3, 3, 1, 3),
}


def is_name(text):
    """Tell whether a text is a name of a step or of a place."""
    if not 1 <= len(text) <= MOST_SIGNS:
        return False
    return text[0] in LETTERS and all(sign in LETTERS_AND_FIGURES for sign in text)


def is_rule(rule):
    """Tell whether a tuple of texts, numbers and truth values is a rule."""
    if len(rule) == 2:
        return rule[0] == "fixed" and is_value(rule[1])
    return len(rule) == 1 and rule[0] in COUNTS and rule[0] != "fixed"


def counts_fit(word, needs, gives):
    """Tell whether a rule of that word may have so many needs and gives."""
    least_needs, most_needs, least_gives, most_gives = COUNTS[word]
    return least_needs <= len(needs) <= most_needs and least_gives <= len(gives) <= most_gives


def is_step(step):
    """Tell whether a step is right by itself, apart from the other steps."""
    name, rule, needs, gives = step
    if not is_rule(rule) or not counts_fit(rule[0], needs, gives):
        return False
    return all(is_name(text) for text in [name, *needs, *gives])


def given_places(plan):
    """The places to which steps give, each as often as it is given to."""
    return [place for step in plan for place in step[3]]


def all_unlike(names):
    """Tell whether no name stands twice in the list."""
    return len(set(names)) == len(names)


def is_plan(plan):
    """Tell whether a tuple of steps is a plan."""
    if not 1 <= len(plan) <= MOST_STEPS:
        return False
    if not all(is_step(step) for step in plan):
        return False
    # All gives of the plan at once: this also finds a place twice in one step's gives.
    return all_unlike([step[0] for step in plan]) and all_unlike(given_places(plan))


def all_places(plan):
    """The places of the plan, as they first come, a step's needs ahead of its gives."""
    found = []
    for step in plan:
        for place in [*step[2], *step[3]]:
            if place not in found:
                found.append(place)
    return found


def outside(plan):
    """The list of the places to which no step gives, as they first come in the plan."""
    given = given_places(plan)
    return [place for place in all_places(plan) if place not in given]


def is_later(step):
    """Tell whether what the step gives is for the next turn."""
    return step[1][0] == "later"
