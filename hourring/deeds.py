"""What a deed is, by its length, words, names and numbers."""

from hourring.towns import MOST_HOURS, is_name, is_whole

WORDS = ("join", "bounds", "leave", "gift", "offer", "wish", "close")


def is_deed(thing):
    """Whether a thing has the form of a deed, whatever the ledger says of it."""
    # Kinds first: what is neither a text nor a number might not even be comparable to a word.
    if not isinstance(thing, tuple) or not all([isinstance(part, (str, int)) for part in thing]):
        return False
    match thing:
        case ("join", name, floor, ceiling):
            return is_name(name) and _are_bounds(floor, ceiling) and floor <= 0 <= ceiling
        case ("bounds", name, floor, ceiling):
            return is_name(name) and _are_bounds(floor, ceiling)
        case ("leave", name):
            return is_name(name)
        case ("gift", one, other, hours):
            return is_name(one) and is_name(other) and is_whole(hours, 1, MOST_HOURS)
        case ("offer" | "wish", name, skill, hours):
            return is_name(name) and is_name(skill) and is_whole(hours, 0, MOST_HOURS)
        case ("close",):
            return True
    return False


def _are_bounds(floor, ceiling):
    if not is_whole(floor, -MOST_HOURS, MOST_HOURS) or not is_whole(ceiling, -MOST_HOURS, MOST_HOURS):
        return False
    return floor <= ceiling
