"""The best exchange of a day, and the paper of prices that shows that none moves more hours."""

from hourring.circling import circulation
from hourring.pairing import paired
from hourring.towns import skills_of


def best(town, day):
    """Jobs of a day that move as many hours as any, and prices that bound just so many."""
    offers, wishes = day
    keys = [("name", row[0]) for row in town] + [("skill", skill) for skill in skills_of(day)]
    # Place 0 stands for what the purses have room for: hours that a purse loses go there, others come from there.
    places = {key: place for place, key in enumerate(keys, start=1)}
    arcs = _offered(offers, places) + _wished(wishes, places) + _purses(town, places)
    flows, prices = circulation(len(keys) + 1, arcs)
    given = flows[:len(offers)]
    taken = flows[len(offers):len(offers) + len(wishes)]
    # The sum that shows a circulation is just the bound of a paper when the signs of the prices are turned. Its
    # prices come from ways each of which is worth at most 1, so they lie far within what a paper may have.
    return _jobs(day, given, taken), {key: -prices[places[key]] for key in keys}


def _offered(offers, places):
    """Arcs from givers to skills: an hour counts once, and it counts here."""
    return [(places[("name", name)], places[("skill", skill)], hours, 1) for name, skill, hours in offers]


def _wished(wishes, places):
    """Arcs from skills to takers."""
    return [(places[("skill", skill)], places[("name", name)], hours, 0) for name, skill, hours in wishes]


def _purses(town, places):
    """Arcs for what each purse may rise, and for what it may fall."""
    arcs = []
    for name, purse, floor, ceiling in town:
        place = places[("name", name)]
        arcs.append((0, place, ceiling - purse, 0))
        arcs.append((place, 0, purse - floor, 0))
    return arcs


def _jobs(day, given, taken):
    """Jobs by which the hours of each offer are given and those of each wish taken."""
    offers, wishes = day
    jobs = []
    for skill in skills_of(day):
        shares = paired(_of_skill(offers, given, skill), _of_skill(wishes, taken, skill))
        jobs.extend([(giver, taker, skill, hours) for giver, taker, hours in shares])
    return jobs


def _of_skill(rows, flows, skill):
    """Who gives, or takes, how many hours of a skill."""
    return [(row[0], flow) for row, flow in zip(rows, flows) if row[1] == skill and flow > 0]
