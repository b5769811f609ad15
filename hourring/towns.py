"""Towns, their days, and what an exchange of a day is."""

from hourring.errors import BadDay, BadTown

MOST_LETTERS = 8
MOST_NEIGHBOURS = 12
MOST_ROWS = 40
MOST_SKILLS = 12
MOST_HOURS = 10 ** 30


def is_name(thing):
    """Whether a thing is a name of a neighbour or of a skill."""
    if not isinstance(thing, str) or not 1 <= len(thing) <= MOST_LETTERS:
        return False
    return all(["a" <= sign <= "z" for sign in thing])


def is_whole(thing, least, most):
    """Whether a thing is a whole number from least to most."""
    # True and False would pass for ints.
    if not isinstance(thing, int) or isinstance(thing, bool):
        return False
    return least <= thing <= most


def need_town(town):
    """Let a town by, and refuse any other thing with BadTown."""
    # No error here shows the thing itself: it may be too long to be written out.
    if not _is_town(town):
        raise BadTown("this is no town")


def need_day(town, day):
    """Let a day of the town by, and refuse any other thing with BadDay."""
    if not _is_day(town, day):
        raise BadDay("this is no day of the town")


def skills_of(day):
    """The skills of a day in the order in which it first names them."""
    offers, wishes = day
    skills = []
    for row in offers + wishes:
        if row[1] not in skills:
            skills.append(row[1])
    return skills


def is_exchange(town, day, jobs):
    """Whether jobs are an exchange of the day of the town."""
    if not _is_day(town, day) or not _are_jobs(jobs):
        return False
    offers, wishes = day
    given = [(giver, skill, hours) for giver, _, skill, hours in jobs]
    taken = [(taker, skill, hours) for _, taker, skill, hours in jobs]
    return _covers(offers, given) and _covers(wishes, taken) and _purses_hold(town, jobs)


def moved(jobs):
    """The sum of the jobs' hours."""
    return sum([job[3] for job in jobs])


def _is_row(thing, length):
    return isinstance(thing, tuple) and len(thing) == length


def _is_town(thing):
    if not isinstance(thing, list) or len(thing) > MOST_NEIGHBOURS:
        return False
    if not all([_is_neighbour(row) for row in thing]):
        return False
    return len({row[0] for row in thing}) == len(thing)


def _is_neighbour(thing):
    if not _is_row(thing, 4) or not is_name(thing[0]):
        return False
    if not all([is_whole(hours, -MOST_HOURS, MOST_HOURS) for hours in thing[1:]]):
        return False
    _, purse, floor, ceiling = thing
    return floor <= purse <= ceiling


def _is_day(town, thing):
    # What is no town has no days: so a bad town, too, is told by an answer.
    if not _is_town(town) or not _is_row(thing, 2):
        return False
    offers, wishes = thing
    if not isinstance(offers, list) or not isinstance(wishes, list):
        return False
    rows = offers + wishes
    names = [row[0] for row in town]
    if len(rows) > MOST_ROWS or not all([_is_offer_or_wish(row, names) for row in rows]):
        return False
    if len({(name, skill) for name, skill, _ in rows}) != len(rows):
        return False
    return len(skills_of(thing)) <= MOST_SKILLS


def _is_offer_or_wish(thing, names):
    if not _is_row(thing, 3):
        return False
    name, skill, hours = thing
    # Names first: what is no name might not even be comparable.
    if not is_name(name) or not is_name(skill):
        return False
    return name in names and is_whole(hours, 1, MOST_HOURS)


def _are_jobs(thing):
    if not isinstance(thing, list) or not all([_is_job(job) for job in thing]):
        return False
    return len({(giver, taker, skill) for giver, taker, skill, _ in thing}) == len(thing)


def _is_job(thing):
    if not _is_row(thing, 4) or not all([is_name(word) for word in thing[:3]]):
        return False
    # No job has more hours than any offer may have.
    return is_whole(thing[3], 1, MOST_HOURS)


def _covers(rows, shares):
    """Whether offers, or wishes, have the hours of all shares that are taken off them."""
    left = {(name, skill): hours for name, skill, hours in rows}
    for name, skill, hours in shares:
        if (name, skill) not in left:
            return False
        left[(name, skill)] -= hours
    return all([hours >= 0 for hours in left.values()])


def _purses_hold(town, jobs):
    """Whether the purses lie in their bounds behind all jobs; on the way they need not."""
    change = {row[0]: 0 for row in town}
    for giver, taker, _, hours in jobs:
        change[giver] += hours
        change[taker] -= hours
    return all([floor <= purse + change[name] <= ceiling for name, purse, floor, ceiling in town])
