"""Papers of prices: by them it is seen that no exchange of a day moves more hours."""

from hourring.towns import is_exchange, moved, skills_of


def bound(town, day, prices):
    """What no exchange of the day moves more than, by the prices."""
    offers, wishes = day
    total = 0
    for name, skill, hours in offers:
        total += max(0, hours * (1 - prices[("skill", skill)] + prices[("name", name)]))
    for name, skill, hours in wishes:
        total += max(0, hours * (prices[("skill", skill)] - prices[("name", name)]))
    for name, purse, floor, ceiling in town:
        price = prices[("name", name)]
        room = purse - floor if price > 0 else ceiling - purse
        total += abs(price) * room
    return total


def holds(town, day, jobs, prices):
    """Whether jobs are an exchange of the day, and prices show that no other one moves more."""
    # The town and the day are looked at first, with the jobs: what prices need is read off them.
    if not is_exchange(town, day, jobs) or not _are_prices(town, day, prices):
        return False
    return moved(jobs) == bound(town, day, prices)


def _are_prices(town, day, thing):
    # Keys first: what is no key of prices might not even be comparable to one.
    if not isinstance(thing, dict) or not all([_is_key(key) for key in thing]):
        return False
    keys = [("name", row[0]) for row in town] + [("skill", skill) for skill in skills_of(day)]
    return len(thing) == len(keys) and all([key in thing and _is_number(thing[key]) for key in keys])


def _is_key(thing):
    return isinstance(thing, tuple) and len(thing) == 2 and all([isinstance(word, str) for word in thing])


def _is_number(thing):
    # True and False would pass for ints.
    return isinstance(thing, int) and not isinstance(thing, bool)
