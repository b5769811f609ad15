"""Papers of prices: point 7, with points 3 and 4."""

import random
import unittest
from itertools import product

from hourring.papers import bound, holds
from hourring.towns import is_exchange, moved, need_day, need_town
from tests.helper import GREAT, even_town, exchanges, keys_of, names, odd_things, outcome

# A plain day with room in the purses.
TOWN = [("ann", 0, -9, 9), ("bob", 2, -9, 9), ("cleo", -2, -9, 9)]
DAY = ([("ann", "dig", 5), ("bob", "sew", 4)], [("bob", "dig", 3), ("cleo", "dig", 4), ("ann", "sew", 2)])
JOBS = [("ann", "bob", "dig", 3), ("ann", "cleo", "dig", 2), ("bob", "ann", "sew", 2)]

# Purses that cannot move: hours go round, or they stay.
STILL = [("ann", 0, 0, 0), ("bob", 3, 3, 3), ("cleo", -3, -3, -3)]
ROUND = ([("ann", "dig", 9), ("bob", "sew", 7), ("cleo", "cook", 8)],
         [("bob", "dig", 9), ("cleo", "sew", 9), ("ann", "cook", 9)])
RING = [("ann", "bob", "dig", 7), ("bob", "cleo", "sew", 7), ("cleo", "ann", "cook", 7)]

# Ann can take two hours and no more, bob can give three and no more.
TIGHT = [("ann", 0, -2, 0), ("bob", 0, 0, 3), ("cleo", 0, -9, 9)]
TIGHT_DAY = ([("bob", "dig", 8), ("cleo", "sew", 8)], [("cleo", "dig", 8), ("ann", "sew", 8)])
TIGHT_JOBS = [("bob", "cleo", "dig", 3), ("cleo", "ann", "sew", 2)]


def paper(of_names, of_skills):
    """Prices of a day."""
    prices = {("name", name): price for name, price in of_names.items()}
    prices.update({("skill", skill): price for skill, price in of_skills.items()})
    return prices


# Of digging the offer is short, of sewing the wish.
PRICES = paper({"ann": 0, "bob": 0, "cleo": 0}, {"dig": 0, "sew": 1})
# All hangs on the offer of sewing: an hour more of it would carry an hour of digging and one of cooking along.
RING_PRICES = paper({"ann": -1, "bob": 0, "cleo": -2}, {"dig": 0, "sew": -2, "cook": -1})
# Each hour that a purse has room for counts, and nothing else.
TIGHT_PRICES = paper({"ann": 1, "bob": -1, "cleo": 0}, {"dig": 0, "sew": 1})

BEST = [(TOWN, DAY, JOBS, PRICES, 7), (STILL, ROUND, RING, RING_PRICES, 21),
        (TIGHT, TIGHT_DAY, TIGHT_JOBS, TIGHT_PRICES, 5), ([], ([], []), [], {}, 0)]


def shifted(prices, key, much):
    """The same prices but for one."""
    return {other: price + much * (other == key) for other, price in prices.items()}


def drawn_day(draw):
    """A town of three, and a day of two skills and few hours."""
    town = [(name, 0, -draw.randrange(3), draw.randrange(3)) for name in names(3)]
    day = ([], [])
    for name, skill in product(names(3), names(2, "s")):
        row = (name, skill, draw.randrange(1, 4))
        draw.choice([day[0], day[1], []]).append(row)
    return town, day


def is_number(thing):
    return thing.__class__ is int


class Alike:
    """A key that stands at the place of another one in a dict, and cannot be compared with it."""

    def __init__(self, key):
        self.key = key

    def __hash__(self):
        return hash(self.key)

    def __eq__(self, other):
        raise RuntimeError("compared")


class Bounds(unittest.TestCase):
    def told(self, town, day, prices, answer):
        self.assertIs(need_town(town), None)
        self.assertIs(need_day(town, day), None)
        self.assertEqual(bound(town, day, prices), answer)
        self.assertIs(bound(town, day, prices).__class__, int)

    def one(self, purse, offers, wishes, name, skill, answer):
        """Of ann alone, with a price of hers and of digging."""
        prices = paper({"ann": name}, {"dig": skill} if offers or wishes else {})
        self.told([("ann",) + purse], (offers, wishes), prices, answer)

    def test_of_no_neighbours(self):
        self.told([], ([], []), {}, 0)

    def test_of_no_offers_and_wishes(self):
        self.told(TOWN, ([], []), paper({"ann": 0, "bob": 0, "cleo": 0}, {}), 0)
        self.told(TOWN, ([], []), paper({"ann": 2, "bob": -3, "cleo": 1}, {}), 2 * 9 + 3 * 7 + 7)

    def test_an_offer_alone(self):
        # The purse cannot move: prices of ann's count for nothing but the offer.
        still, offers = (4, 4, 4), [("ann", "dig", 7)]
        for name, skill, answer in [
            (0, 0, 7), (0, 1, 0), (0, 2, 0), (0, -1, 14), (1, 1, 7), (1, 2, 0), (1, 3, 0), (1, 0, 14), (-1, 0, 0),
            (-1, -1, 7), (-2, -1, 0), (3, -2, 42), (GREAT, -GREAT, 7 * (2 * GREAT + 1)), (-GREAT, GREAT, 0),
            (GREAT, GREAT, 7), (GREAT, GREAT + 1, 0), (-GREAT, -GREAT, 7), (10 ** 50, 0, 7 * (10 ** 50 + 1)),
        ]:
            with self.subTest(name=name, skill=skill):
                self.one(still, offers, [], name, skill, answer)

    def test_a_wish_alone(self):
        still, wishes = (4, 4, 4), [("ann", "dig", 7)]
        for name, skill, answer in [
            (0, 0, 0), (0, 1, 7), (0, 2, 14), (0, -1, 0), (1, 1, 0), (1, 2, 7), (1, 0, 0), (-1, 0, 7), (-1, -1, 0),
            (-2, -1, 7), (-2, 3, 35), (3, -2, 0), (-GREAT, GREAT, 14 * GREAT), (GREAT, -GREAT, 0), (GREAT, GREAT, 0),
            (GREAT, GREAT + 1, 7), (-10 ** 50, 0, 7 * 10 ** 50),
        ]:
            with self.subTest(name=name, skill=skill):
                self.one(still, [], wishes, name, skill, answer)

    def test_a_purse_alone(self):
        for purse, name, answer in [
            ((0, -5, 3), 0, 0), ((0, -5, 3), 1, 5), ((0, -5, 3), 2, 10), ((0, -5, 3), -1, 3), ((0, -5, 3), -2, 6),
            ((-5, -5, 3), 4, 0), ((-5, -5, 3), -4, 32), ((3, -5, 3), 4, 32), ((3, -5, 3), -4, 0), ((3, -5, 3), 0, 0),
            ((4, 4, 4), 9, 0), ((4, 4, 4), -9, 0), ((7, 2, 9), 3, 15), ((7, 2, 9), -3, 6), ((-7, -9, -2), 3, 6),
            ((-7, -9, -2), -3, 15), ((GREAT, -GREAT, GREAT), GREAT, 2 * GREAT * GREAT),
            ((GREAT, -GREAT, GREAT), -GREAT, 0), ((-GREAT, -GREAT, GREAT), GREAT, 0),
            ((-GREAT, -GREAT, GREAT), -GREAT, 2 * GREAT * GREAT), ((1, 0, 3), 10 ** 50, 10 ** 50),
        ]:
            with self.subTest(purse=purse, name=name):
                self.one(purse, [], [], name, 0, answer)

    def test_very_great_hours(self):
        self.one((4, 4, 4), [("ann", "dig", GREAT)], [], 2, 0, 3 * GREAT)
        self.one((4, 4, 4), [], [("ann", "dig", GREAT)], -2, 1, 3 * GREAT)
        self.one((4, 4, 4), [("ann", "dig", GREAT)], [], GREAT, -GREAT, GREAT * (2 * GREAT + 1))

    def test_one_short_of_nothing_takes_nothing_off_another(self):
        prices = paper({"ann": 0, "bob": 0, "cleo": 0}, {"dig": 5, "sew": -5})
        self.told(TOWN, DAY, prices, 0 + 4 * 6 + 3 * 5 + 4 * 5 + 0)

    def test_all_sorts_together(self):
        prices = paper({"ann": 1, "bob": -2, "cleo": 0}, {"dig": 1, "sew": -1})
        self.told(TOWN, DAY, prices, 5 * 1 + 4 * 0 + 3 * 3 + 4 * 1 + 0 + 1 * 9 + 2 * 7)

    def test_each_neighbour_and_skill_has_a_price_of_its_own(self):
        prices = paper({"ann": 2, "bob": 4, "cleo": 7}, {"dig": 8, "sew": 3})
        self.told(TOWN, DAY, prices, 0 + 4 * 2 + 3 * 4 + 4 * 1 + 2 * 1 + 2 * 9 + 4 * 11 + 7 * 7)

    def test_a_name_that_is_a_skill_too(self):
        town, day = [("dig", 1, 0, 3), ("ann", 0, 0, 0)], ([("dig", "dig", 5)], [("ann", "dig", 4)])
        self.told(town, day, {("name", "dig"): 2, ("name", "ann"): 0, ("skill", "dig"): 1}, 5 * 2 + 4 * 1 + 2 * 1)

    def test_twelve_neighbours_and_forty_offers_and_wishes(self):
        town = [(name, at, -1, 20) for at, name in enumerate(names(12))]
        skills = names(4, "s")
        rows = [(name, skill, 1 + at) for skill in skills for at, name in enumerate(names(10))]
        day = ([row for row in rows if row[2] > 5], [row for row in rows if row[2] <= 5])
        nothing = paper({name: 0 for name in names(12)}, {skill: 0 for skill in skills})
        self.told(town, day, nothing, 4 * (6 + 7 + 8 + 9 + 10))
        ones = paper({name: 0 for name in names(12)}, {skill: 1 for skill in skills})
        self.told(town, day, ones, 4 * (1 + 2 + 3 + 4 + 5))
        rich = paper({name: 1 for name in names(12)}, {skill: 0 for skill in skills})
        self.told(town, day, rich, 2 * 4 * (6 + 7 + 8 + 9 + 10) + sum(at + 1 for at in range(12)))
        poor = paper({name: -1 for name in names(12)}, {skill: at for at, skill in enumerate(skills)})
        self.told(town, day, poor, (1 + 2 + 3 + 4) * (1 + 2 + 3 + 4 + 5) + sum(20 - at for at in range(12)))

    def test_no_exchange_moves_more(self):
        draw = random.Random(71)
        for number in range(150):
            town, day = drawn_day(draw)
            prices = {key: draw.randrange(-3, 4) for key in keys_of(town, day)}
            most = max(moved(jobs) for jobs in exchanges(town, day))
            with self.subTest(number=number, town=town, day=day, prices=prices):
                self.assertLessEqual(most, bound(town, day, prices))


class Holds(unittest.TestCase):
    def told(self, answer, town, day, jobs, prices):
        self.assertIs(outcome(holds, town, day, jobs, prices), answer)

    def test_a_best_exchange_with_a_paper_that_shows_it(self):
        for town, day, jobs, prices, most in BEST:
            with self.subTest(most):
                self.assertIs(need_town(town), None)
                self.assertIs(need_day(town, day), None)
                self.assertEqual(moved(jobs), most)
                self.told(True, town, day, jobs, prices)
                self.told(True, town, day, list(reversed(jobs)), prices)
                self.told(True, town, day, jobs, {key: prices[key] for key in reversed(prices)})

    def test_hours_and_purses_of_any_greatness(self):
        town = [("ann", 0, -GREAT, GREAT), ("bob", GREAT, 0, GREAT)]
        day = ([("ann", "dig", GREAT)], [("bob", "dig", GREAT)])
        jobs = [("ann", "bob", "dig", GREAT)]
        self.told(True, town, day, jobs, paper({"ann": 0, "bob": 0}, {"dig": 0}))
        self.told(True, town, day, jobs, paper({"ann": 0, "bob": 0}, {"dig": 1}))
        self.told(False, town, day, [("ann", "bob", "dig", GREAT - 1)], paper({"ann": 0, "bob": 0}, {"dig": 1}))
        self.told(False, town, day, jobs, paper({"ann": 1, "bob": 1}, {"dig": 1}))

    def test_an_exchange_that_is_not_the_best(self):
        for town, day, jobs, prices, most in BEST:
            for lesser in [jobs[:at] + jobs[at + 1:] for at in range(len(jobs))]:
                with self.subTest(lesser):
                    self.told(False, town, day, lesser, prices)
        less = [job[:3] + (6,) for job in RING]
        self.assertIs(is_exchange(STILL, ROUND, less), True)
        self.told(False, STILL, ROUND, less, RING_PRICES)
        self.told(False, STILL, ROUND, [], RING_PRICES)

    def test_jobs_longer_and_shorter(self):
        for town, day, jobs, prices, most in BEST:
            for at, (giver, taker, skill, hours) in enumerate(jobs):
                for other in [hours - 1, hours + 1, 0, -hours, True, GREAT, 10 ** 5000]:
                    with self.subTest(most=most, at=at, length=other.bit_length()):
                        self.told(False, town, day, jobs[:at] + [(giver, taker, skill, other)] + jobs[at + 1:], prices)

    def test_jobs_twice_turned_about_and_of_another_name(self):
        for town, day, jobs, prices, most in BEST:
            for at, (giver, taker, skill, hours) in enumerate(jobs):
                for others in [
                    [jobs[at], jobs[at]], [(taker, giver, skill, hours)], [("dora", taker, skill, hours)],
                    [(giver, "dora", skill, hours)], [(giver, taker, "weave", hours)], [(giver, giver, skill, hours)],
                    [(giver, taker, skill)], [[giver, taker, skill, hours]],
                ]:
                    with self.subTest(most=most, others=others):
                        self.told(False, town, day, jobs[:at] + others + jobs[at + 1:], prices)

    def test_the_hours_of_a_job_told_as_two_jobs(self):
        split = [("ann", "bob", "dig", 1), ("ann", "bob", "dig", 2)] + JOBS[1:]
        self.assertEqual(moved(split), moved(JOBS))
        self.told(False, TOWN, DAY, split, PRICES)

    def test_as_many_hours_that_are_no_exchange(self):
        self.told(False, TOWN, DAY, [("ann", "bob", "dig", 5), ("bob", "ann", "sew", 2)], PRICES)
        self.told(False, STILL, ROUND, [("ann", "bob", "dig", 9), ("bob", "cleo", "sew", 5)] + RING[2:], RING_PRICES)

    def test_a_price_one_more_or_one_less(self):
        for town, day, jobs, prices, most in BEST:
            for key, much in product(prices, [-1, 1]):
                with self.subTest(most=most, key=key, much=much):
                    other = shifted(prices, key, much)
                    self.told(bound(town, day, other) == most, town, day, jobs, other)
        for key, much in [("ann", -1), ("bob", 1), ("bob", -1), ("cleo", 1), ("cleo", -1)]:
            self.told(False, TOWN, DAY, JOBS, shifted(PRICES, ("name", key), much))
        for skill, much in [("dig", -1), ("dig", 1), ("sew", -1), ("sew", 1)]:
            self.told(False, TOWN, DAY, JOBS, shifted(PRICES, ("skill", skill), much))
        for skill in ["dig", "sew", "cook"]:
            self.told(False, STILL, ROUND, RING, shifted(RING_PRICES, ("skill", skill), 1))
            self.told(False, STILL, ROUND, RING, shifted(RING_PRICES, ("skill", skill), -1))

    def test_other_prices_that_show_it_too(self):
        # Nothing is lost where all prices of a ring without room in the purses rise alike.
        for much in [-1, 1, 5, GREAT, -10 ** 50]:
            with self.subTest(much):
                self.told(True, STILL, ROUND, RING, {key: price + much for key, price in RING_PRICES.items()})

    def test_prices_beyond_ten_to_the_thirtieth(self):
        town, day = [("ann", 0, 0, 5), ("bob", 0, 0, 0)], ([], [])
        for price in [GREAT + 1, 10 ** 50, 10 ** 5000]:
            with self.subTest(price.bit_length()):
                self.told(True, town, day, [], paper({"ann": price, "bob": -price}, {}))
                self.told(False, town, day, [], paper({"ann": -price, "bob": price}, {}))

    def test_a_key_that_lacks(self):
        for town, day, jobs, prices, most in BEST:
            for lacking in prices:
                with self.subTest(most=most, lacking=lacking):
                    self.told(False, town, day, jobs, {key: prices[key] for key in prices if key != lacking})
        self.told(False, STILL, ROUND, RING, {})
        self.told(False, even_town(), ([], []), [], {})

    def test_a_key_too_many(self):
        more = [("name", "dora"), ("skill", "weave"), ("skill", "ann"), ("name", "dig"), ("bank", "ann"), ("name",),
                ("name", "ann", 0), "ann", "name", 0, None, True, (), ("name", ("ann",)), ("name", 1), (1, 2), b"ann",
                frozenset(), object(), len, ("ann", "name")]
        for town, day, jobs, prices, most in BEST:
            for key in more:
                with self.subTest(most=most, key=key):
                    self.told(False, town, day, jobs, {**prices, key: 0})
                    self.told(False, town, day, jobs, {key: 0, **prices})

    def test_a_key_in_place_of_another(self):
        for wrong in [("name", "dora"), ("skill", "ann"), ("Name", "ann"), ("name", "Ann"), ("ann", "name"), None]:
            with self.subTest(wrong):
                prices = {key: price for key, price in PRICES.items() if key != ("name", "ann")}
                self.told(False, TOWN, DAY, JOBS, {**prices, wrong: 0})

    def test_a_key_that_cannot_be_compared(self):
        for town, day, jobs, prices, most in BEST:
            self.told(False, town, day, jobs, {**prices, Alike(None): 0})
            for key in prices:
                others = {other: price for other, price in prices.items() if other != key}
                for thing in [Alike(key), (key[0], Alike(key[1])), (Alike(key[0]), key[1])]:
                    with self.subTest(most=most, key=key, kind=thing.__class__):
                        self.told(False, town, day, jobs, {thing: 0, **others})

    def test_a_skill_of_another_day(self):
        self.told(True, TOWN, (DAY[0][:1], DAY[1][:2]), JOBS[:2], paper({"ann": 0, "bob": 0, "cleo": 0}, {"dig": 0}))
        self.told(False, TOWN, (DAY[0][:1], DAY[1][:2]), JOBS[:2], PRICES)

    def test_another_thing_for_a_number(self):
        for town, day, jobs, prices, most in BEST:
            for key in prices:
                others = [True, False, str(prices[key]), "", None, (prices[key],), [prices[key]], {}, b"0", len]
                for number, thing in enumerate(others + [thing for thing in odd_things() if not is_number(thing)]):
                    with self.subTest(most=most, key=key, number=number):
                        self.told(False, town, day, jobs, {**prices, key: thing})

    def test_a_truth_that_is_as_great_as_the_price(self):
        self.assertEqual((PRICES[("skill", "sew")], PRICES[("name", "ann")]), (1, 0))
        self.told(False, TOWN, DAY, JOBS, {**PRICES, ("skill", "sew"): True})
        self.told(False, TOWN, DAY, JOBS, {**PRICES, ("name", "ann"): False})

    def test_prices_that_are_no_dict(self):
        for town, day, jobs, prices, most in BEST:
            for number, thing in enumerate([list(prices), list(prices.items()), set(prices), tuple(prices)]):
                with self.subTest(most=most, number=number):
                    self.told(False, town, day, jobs, thing)
            for number, thing in enumerate(odd_things()):
                with self.subTest(most=most, odd=number):
                    self.told(False, town, day, jobs, thing)

    def test_jobs_that_are_no_jobs(self):
        for town, day, jobs, prices, most in BEST:
            for number, thing in enumerate(odd_things() + [tuple(jobs), {job: 1 for job in jobs}, set(jobs)]):
                with self.subTest(most=most, number=number):
                    self.told(False, town, day, thing, prices)
                    self.told(False, town, day, jobs + [thing], prices)
                    self.told(False, town, day, thing, thing)

    def test_odd_things_at_each_place_of_a_job(self):
        for at in range(4):
            for number, thing in enumerate(odd_things()):
                with self.subTest(at=at, number=number):
                    job = list(JOBS[0])
                    job[at] = thing
                    self.told(False, TOWN, DAY, [tuple(job)] + JOBS[1:], PRICES)

    def test_towns_and_days_that_are_none(self):
        for number, thing in enumerate(odd_things()):
            with self.subTest(number):
                self.told(False, thing, DAY, JOBS, PRICES)
                self.told(False, TOWN, thing, JOBS, PRICES)
                self.told(False, thing, thing, thing, thing)

    def test_small_days_against_all_exchanges(self):
        draw = random.Random(72)
        for number in range(25):
            town, day = drawn_day(draw)
            told = list(exchanges(town, day))
            most = max(moved(jobs) for jobs in told)
            keys, shown = keys_of(town, day), 0
            for numbers in product([-1, 0, 1], repeat=len(keys)):
                prices = dict(zip(keys, numbers))
                shows = bound(town, day, prices) == most
                shown += shows
                with self.subTest(number=number, town=town, day=day, prices=prices):
                    for jobs in told[1:2] + [max(told, key=moved)]:
                        self.told(shows and moved(jobs) == most, town, day, jobs, prices)
            self.assertGreater(shown, 0)
