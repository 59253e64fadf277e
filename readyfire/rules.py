"""Values, and what a step's rule gives of the values that it needs."""

MILLION = 1000000


def is_whole(thing):
    """Tell whether a number, a truth value, a text or None is a whole number."""
    # Python counts True and False as whole numbers; here they are none.
    return isinstance(thing, int) and not isinstance(thing, bool)


def is_value(thing):
    """Tell whether a number, a truth value, a text or None is a value."""
    return is_whole(thing) and 0 <= thing < MILLION


def last_figures(number):
    """The last six figures of a number, as a number."""
    return number % MILLION


def sum_of(values):
    """The last six figures of the sum."""
    return last_figures(sum(values))


def product_of(values):
    """The last six figures of the product."""
    product = 1
    for value in values:
        product = last_figures(product * value)
    return product


def least_of(values):
    """The least of the values."""
    return min(values)


def most_of(values):
    """The greatest of the values."""
    return max(values)


def first_of(values):
    """The first of the values."""
    return values[0]


def chosen_at(first):
    """The place, among the three needs of a choose, of the one it needs by its first value."""
    return 1 if first == 0 else 2


def chosen_of(values):
    """The second value where the first one is 0, else the third one."""
    return values[chosen_at(values[0])]


# Of each rule that gives every place one and the same value worked out of the needed ones.
# That of a later is for the next turn, but which turn it is for does not change the value.
WORKS = {
    "sum": sum_of,
    "times": product_of,
    "least": least_of,
    "most": most_of,
    "later": first_of,
    "choose": chosen_of,
}


def same_for_all(rule, values):
    """The value that each place gets by a rule other than a way."""
    if rule[0] == "fixed":
        return rule[1]
    work = WORKS[rule[0]]
    return work(values)


def way_of(values):
    """What a way gives to its two places: the value to one, None to the other."""
    if values[1] == 0:
        return [values[0], None]
    return [None, values[0]]


def outcome(rule, values, many):
    """The list of what the rule gives to each of so many places: a value, or None for nothing."""
    if rule[0] == "way":
        return way_of(values)
    return [same_for_all(rule, values)] * many
