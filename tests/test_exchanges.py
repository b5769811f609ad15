"""The best exchange of a day: point 8, with points 4 and 7."""

import random
import time
import unittest
from itertools import permutations, product

from hourring.exchanges import best
from hourring.papers import bound, holds
from hourring.towns import is_exchange, moved, need_day, need_town, skills_of
from tests.helper import GREAT, even_town, exchanges, keys_of, names, spread

# Much more than the largest day needs, and few enough to be called a few.
SECONDS = 5

# Kinds of purses: at the floor, at the ceiling, between, without room, with room of one side far beyond the other.
PURSES = [
    (0, 0, 4), (0, -4, 0), (0, -2, 3), (0, 0, 0), (3, 3, 3), (-5, -5, -5), (5, -1, 6), (-6, -7, 1), (0, -1, GREAT),
    (GREAT, -GREAT, GREAT), (-GREAT, -GREAT, GREAT), (0, -GREAT, GREAT), (GREAT, GREAT, GREAT), (GREAT - 1, 0, GREAT),
]


def chain(folk, skills, hours, closed):
    """Offers and wishes by which each works for the next one, and in a ring the last one for the first."""
    takers = folk[1:] + folk[:1] if closed else folk[1:]
    offers = [(name, skill, much) for name, skill, much in zip(folk, skills, hours)][:len(takers)]
    wishes = [(name, skill, much) for name, skill, much in zip(takers, skills, hours)]
    return offers, wishes


def row_town(folk, room):
    """A town in which the first one's purse can rise so far, the last one's fall so far, and no other move."""
    town = [(name, 0, 0, 0) for name in folk]
    town[0] = (folk[0], 0, 0, room)
    town[-1] = (folk[-1], 0, -room, 0)
    return town


def shuffled(draw, rows):
    return draw.sample(rows, len(rows))


def drawn_day(draw, many, kinds, hours, purses):
    """A town of so many neighbours, and a day of so many skills at most, in any order."""
    town = [(name,) + draw.choice(purses) for name in names(many)]
    day = ([], [])
    for name, skill in shuffled(draw, list(product(names(many), names(kinds, "s")))):
        side = draw.choice([day[0], day[1], None])
        if side is not None and len(day[0]) + len(day[1]) < 40:
            side.append((name, skill, hours()))
    return town, day


def places_of(jobs, day):
    """Where jobs stand by the order that is due."""
    skills = skills_of(day)
    givers = {row[:2]: at for at, row in enumerate(day[0])}
    takers = {row[:2]: at for at, row in enumerate(day[1])}
    return [(skills.index(skill), givers[giver, skill], takers[taker, skill]) for giver, taker, skill, _ in jobs]


class DayCase(unittest.TestCase):
    def told(self, town, day):
        """The jobs of the best exchange, when all is as it must be, and the paper shows that none moves more."""
        self.assertIs(need_town(town), None)
        self.assertIs(need_day(town, day), None)
        pair = best(town, day)
        self.assertEqual((pair.__class__, len(pair)), (tuple, 2))
        jobs, prices = pair
        self.assertEqual((jobs.__class__, prices.__class__), (list, dict))
        self.is_ordered(jobs, day)
        self.is_few(jobs)
        self.assertIs(is_exchange(town, day, jobs), True)
        self.assertEqual(sorted(prices), sorted(keys_of(town, day)))
        for price in prices.values():
            self.assertIs(price.__class__, int)
            self.assertLessEqual(abs(price), GREAT)
        self.assertEqual(bound(town, day, prices), moved(jobs))
        self.assertIs(holds(town, day, jobs, prices), True)
        return jobs

    def is_ordered(self, jobs, day):
        for job in jobs:
            self.assertEqual([part.__class__ for part in job], [str, str, str, int])
        places = places_of(jobs, day)
        self.assertEqual(places, sorted(places))

    def is_few(self, jobs):
        for skill in {job[2] for job in jobs}:
            mine = [job for job in jobs if job[2] == skill]
            folk = {job[0] for job in mine} | {job[1] for job in mine}
            self.assertLess(len(mine), len(folk))

    def moves(self, most, town, day):
        self.assertEqual(moved(self.told(town, day)), most)

    def soon(self, town, day):
        begun = time.perf_counter()
        jobs = self.told(town, day)
        self.assertLess(time.perf_counter() - begun, SECONDS)
        return jobs


class Best(DayCase):
    def test_no_neighbours(self):
        self.assertEqual(best([], ([], [])), ([], {}))

    def test_nothing_offered_and_nothing_wished_for(self):
        for many in [1, 2, 12]:
            with self.subTest(many):
                town = even_town(many)
                self.assertEqual(self.told(town, ([], [])), [])
                self.assertEqual(self.told(town, (spread(many), [])), [])
                self.assertEqual(self.told(town, ([], spread(many))), [])

    def test_an_offer_that_nobody_wishes_for(self):
        town = even_town(3)
        self.assertEqual(self.told(town, ([("aa", "dig", 5)], [("ab", "sew", 5)])), [])

    def test_one_works_for_one(self):
        town = even_town(2)
        for offered, wished in [(1, 1), (5, 3), (3, 5), (100, 101), (101, 100), (200, 200), (GREAT, GREAT), (1, GREAT)]:
            with self.subTest(offered=offered, wished=wished):
                day = ([("aa", "dig", offered)], [("ab", "dig", wished)])
                self.assertEqual(self.told(town, day), [("aa", "ab", "dig", min(offered, wished, 100))])

    def test_each_kind_of_purse_against_each(self):
        for giver, taker in product(PURSES, repeat=2):
            most = min(giver[2] - giver[0], taker[0] - taker[1])
            for hours in [1, 3, GREAT]:
                with self.subTest(giver=giver, taker=taker, hours=hours):
                    day = ([("aa", "dig", hours)], [("ab", "dig", hours)])
                    self.moves(min(most, hours), [("aa",) + giver, ("ab",) + taker], day)

    def test_a_purse_that_is_filled_while_it_is_emptied(self):
        town = [("aa", 0, 0, 9), ("ab", 0, 0, 0), ("ac", 0, -9, 0)]
        day = ([("aa", "dig", 7), ("ab", "sew", 5)], [("ab", "dig", 6), ("ac", "sew", 8)])
        self.assertEqual(self.told(town, day), [("aa", "ab", "dig", 5), ("ab", "ac", "sew", 5)])

    def test_a_long_ring_rather_than_a_short_one(self):
        # Ann's hour can go round by two or by three, and only once.
        town = [("ann", 0, 0, 0), ("bob", 0, 0, 0), ("cleo", 0, 0, 0)]
        day = ([("ann", "dig", 1), ("bob", "sew", 1), ("cleo", "cook", 1), ("bob", "cook", 1)],
               [("bob", "dig", 1), ("cleo", "sew", 1), ("ann", "cook", 1)])
        jobs = [("ann", "bob", "dig", 1), ("bob", "cleo", "sew", 1), ("cleo", "ann", "cook", 1)]
        self.assertEqual(self.told(town, day), jobs)

    def test_skills_stand_as_the_day_first_names_them(self):
        town = even_town(4)
        day = ([("aa", "sew", 2), ("ab", "dig", 2), ("aa", "cook", 2)],
               [("ac", "weave", 2), ("ac", "cook", 2), ("ac", "dig", 2), ("ac", "sew", 2)])
        self.assertEqual([job[2] for job in self.told(town, day)], ["sew", "dig", "cook"])
        self.assertEqual([job[2] for job in self.told(town, (list(reversed(day[0])), day[1]))], ["cook", "dig", "sew"])

    def test_givers_and_takers_stand_as_they_offer_and_wish(self):
        town = even_town(5)
        day = ([("ae", "dig", 3), ("aa", "dig", 3)], [("ad", "dig", 2), ("ab", "dig", 2), ("ac", "dig", 2)])
        jobs = [("ae", "ad", "dig", 2), ("ae", "ab", "dig", 1), ("aa", "ab", "dig", 1), ("aa", "ac", "dig", 2)]
        self.assertEqual(self.told(town, day), jobs)

    def test_a_neighbour_and_a_skill_of_one_name(self):
        town = [("dig", 0, -9, 9), ("sew", 0, -9, 9)]
        day = ([("dig", "sew", 4), ("sew", "dig", 3)], [("sew", "sew", 2), ("dig", "dig", 9)])
        self.assertEqual(self.told(town, day), [("dig", "sew", "sew", 2), ("sew", "dig", "dig", 3)])

    def test_all_twelve_at_one_skill(self):
        for givers in range(13):
            rows = [(name, "dig", at + 1) for at, name in enumerate(names(12))]
            offered, wished = sum(row[2] for row in rows[:givers]), sum(row[2] for row in rows[givers:])
            with self.subTest(givers):
                self.moves(min(offered, wished), even_town(12), (rows[:givers], rows[givers:]))
                self.moves(min(offered, wished), even_town(12), (rows[:givers][::-1], rows[givers:][::-1]))

    def test_twelve_skills_between_two(self):
        skills = names(12, "s")
        day = ([("aa", skill, 5) for skill in skills], [("ab", skill, 4) for skill in reversed(skills)])
        self.moves(48, even_town(2), day)
        self.moves(48, even_town(2, ceiling=48, floor=-48), day)
        self.moves(47, even_town(2, ceiling=47), day)
        self.moves(47, even_town(2, floor=-47), day)
        jobs = self.told(even_town(2), day)
        self.assertEqual([job[2] for job in jobs], skills)


class RingsAndRows(DayCase):
    """Rings and rows through all of a town: nothing moves but all along."""

    def in_any_order(self, draw, town, day):
        return shuffled(draw, town), (shuffled(draw, day[0]), shuffled(draw, day[1]))

    def test_rings_of_two_to_twelve(self):
        draw = random.Random(81)
        for many, hours, _ in product(range(2, 13), [1, 7, GREAT], range(4)):
            folk, skills = shuffled(draw, names(many)), shuffled(draw, names(many, "s"))
            most = [hours + draw.randrange(3) * (hours < GREAT) for _ in range(many)]
            town = [(name,) + draw.choice([(0, 0, 0), (3, 3, 3), (-GREAT,) * 3, (GREAT,) * 3]) for name in folk]
            town, day = self.in_any_order(draw, town, chain(folk, skills, most, True))
            with self.subTest(town=town, day=day):
                self.moves(many * min(most), town, day)

    def test_rings_that_lack_an_offer_or_a_wish(self):
        for many in range(2, 13):
            offers, wishes = chain(names(many), names(many, "s"), [5] * many, True)
            town = even_town(many, 0, 0, 0)
            for at in range(many):
                with self.subTest(many=many, at=at):
                    self.moves(0, town, (offers[:at] + offers[at + 1:], wishes))
                    self.moves(0, town, (offers, wishes[:at] + wishes[at + 1:]))

    def test_rings_in_each_order_of_a_small_town(self):
        for folk in permutations(names(4)):
            day = chain(list(folk), names(4, "s"), [3, 2, 4, 5], True)
            with self.subTest(folk):
                self.moves(8, even_town(4, 1, 1, 1), day)

    def test_rows_of_two_to_twelve(self):
        draw = random.Random(82)
        for many, room, _ in product(range(2, 13), [1, 5, GREAT], range(4)):
            folk, skills = shuffled(draw, names(many)), shuffled(draw, names(many, "s"))
            hours = [draw.choice([1, 4, 5, 9, GREAT]) for _ in range(many)]
            town, day = self.in_any_order(draw, row_town(folk, room), chain(folk, skills, hours, False))
            with self.subTest(town=town, day=day):
                self.moves((many - 1) * min(hours[:-1] + [room]), town, day)

    def test_rows_without_room_at_an_end(self):
        for many in range(2, 13):
            folk = names(many)
            day = chain(folk, names(many, "s"), [5] * many, False)
            for at in [0, -1]:
                town = row_town(folk, 5)
                town[at] = (folk[at], 0, 0, 0)
                with self.subTest(many=many, at=at):
                    self.moves(0, town, day)
                # Room to the other side is no help: nothing there is to be done.
                town[at] = (folk[at], 0, -9 if at == 0 else 0, 0 if at == 0 else 9)
                with self.subTest(many=many, at=at, other_side=True):
                    self.moves(0, town, day)

    def test_rows_with_more_room_at_one_end(self):
        for many in range(2, 13):
            folk = names(many)
            day = chain(folk, names(many, "s"), [9] * many, False)
            for up, down in [(3, 5), (5, 3), (9, GREAT), (GREAT, 9), (1, 0), (0, 1)]:
                town = row_town(folk, up)
                town[-1] = (folk[-1], 0, -down, 0)
                with self.subTest(many=many, up=up, down=down):
                    self.moves((many - 1) * min(up, down, 9), town, day)

    def test_several_beside_one_another(self):
        draw = random.Random(83)
        parts = [[2] * 6, [3] * 4, [4] * 3, [6, 6], [5, 7], [2, 10], [2, 3, 7], [1, 11], [3, 9]]
        for lengths, closed, _ in product(parts, [[True], [False], [True, False]], range(3)):
            folk, skills = shuffled(draw, names(12)), shuffled(draw, names(12, "s"))
            town, offers, wishes, most = [], [], [], 0
            for length in lengths:
                some, folk, kinds, skills = folk[:length], folk[length:], skills[:length], skills[length:]
                hours = [draw.randrange(1, 9) for _ in some]
                ring = draw.choice(closed) and length > 1
                town += [(name, 0, 0, 0) for name in some] if ring else row_town(some, 5)
                more = chain(some, kinds, hours, ring)
                offers, wishes = offers + more[0], wishes + more[1]
                most += length * min(hours) if ring else (length - 1) * min(hours[:-1] + [5])
            town, day = self.in_any_order(draw, town, (offers, wishes))
            with self.subTest(town=town, day=day):
                self.moves(most, town, day)

    def test_two_rings_through_one_neighbour(self):
        for one, two in product(range(2, 7), repeat=2):
            folk, skills = names(one + two - 1), names(one + two, "s")
            first = chain(folk[:one], skills[:one], [4] * one, True)
            second = chain(folk[:1] + folk[one:], skills[one:], [3] * two, True)
            town, day = even_town(len(folk), 2, 2, 2), (first[0] + second[0], first[1] + second[1])
            with self.subTest(one=one, two=two):
                self.moves(4 * one + 3 * two, town, day)


class Compared(DayCase):
    """Days against all exchanges, tried one by one, and days of any size against the paper."""

    def most_of_all(self, town, day):
        return max(moved(jobs) for jobs in exchanges(town, day))

    def test_small_days_of_three(self):
        draw = random.Random(84)
        purses = [(0, -low, high) for low, high in product(range(3), repeat=2)]
        for number in range(250):
            town, day = drawn_day(draw, 3, 2, lambda: draw.randrange(1, 4), purses)
            with self.subTest(number=number, town=town, day=day):
                self.moves(self.most_of_all(town, day), town, day)

    def test_small_days_of_four_and_three_skills(self):
        draw = random.Random(85)
        purses = [(0, 0, 0), (0, 0, 1), (0, -1, 0), (2, 2, 2), (1, 0, 3)]
        for number in range(250):
            town, day = drawn_day(draw, 4, 3, lambda: 1, purses)
            with self.subTest(number=number, town=town, day=day):
                self.moves(self.most_of_all(town, day), town, day)

    def test_great_hours_against_small_ones(self):
        # Where all hours and all rooms are as many times as great, so are the hours that are moved.
        draw = random.Random(86)
        purses = [(0, -low, high) for low, high in product(range(3), repeat=2)]
        for number in range(60):
            town, day = drawn_day(draw, 3, 2, lambda: draw.randrange(1, 4), purses)
            many = GREAT // 3
            wide = [(name, purse * many, floor * many, ceiling * many) for name, purse, floor, ceiling in town]
            long = tuple([(name, skill, hours * many) for name, skill, hours in side] for side in day)
            with self.subTest(number=number, town=town, day=day):
                self.moves(self.most_of_all(town, day) * many, wide, long)

    def test_days_of_any_size(self):
        draw = random.Random(87)
        hours = [lambda: 1, lambda: GREAT, lambda: draw.randrange(1, 10), lambda: 10 ** draw.randrange(31),
                 lambda: draw.randrange(1, GREAT + 1), lambda: 2 ** draw.randrange(99)]
        for number in range(150):
            many, kinds = draw.randrange(1, 13), draw.randrange(1, 13)
            purses = draw.sample(PURSES, draw.randrange(1, len(PURSES)))
            town, day = drawn_day(draw, many, kinds, draw.choice(hours), purses)
            with self.subTest(number=number):
                self.told(town, day)

    def test_the_largest_days_are_answered_soon(self):
        draw = random.Random(88)
        purses = [(0, -GREAT, GREAT), (0, 0, 0), (0, -1, 10 ** 15), (-GREAT, -GREAT, GREAT), (GREAT, -GREAT, GREAT)]
        hours = [lambda: GREAT, lambda: draw.randrange(1, GREAT), lambda: 10 ** draw.randrange(31), lambda: 1]
        for kinds, much, which in product([4, 7, 12], hours, [purses, purses[:1], purses[1:2], purses[1:]]):
            town, day = drawn_day(draw, 12, kinds, much, which)
            while len(day[0]) + len(day[1]) < 36:
                town, day = drawn_day(draw, 12, kinds, much, which)
            with self.subTest(kinds=kinds, which=which):
                self.soon(town, day)

    def test_forty_that_go_round_are_answered_soon(self):
        # Each skill goes through all of the town, and hours that one ring leaves are short in the next.
        folk, skills = names(12), names(12, "s")
        for step, least in product([1, 5, 7, 11], [1, 10 ** 15, GREAT // 40]):
            offers = [(folk[at % 12], skills[at * step % 12], least * (at + 1)) for at in range(12)]
            wishes = [(folk[(at + 1) % 12], skills[at * step % 12], least * (12 - at)) for at in range(12)]
            more = [(folk[(at + 2) % 12], skills[at * step % 12], least) for at in range(12)]
            offers += [(folk[(at + 3) % 12], skills[at * step % 12], least + at) for at in range(4)]
            day = (offers, wishes + more)
            for town in [even_town(12, 0, 0, 0), even_town(12, 0, -least, least), even_town(12, 5, -GREAT, GREAT)]:
                with self.subTest(step=step, least=least):
                    self.assertGreater(moved(self.soon(town, day)), 0)

    def test_somewhat_beyond_what_a_day_has(self):
        draw = random.Random(89)
        for many in [13, 14]:
            town = [(name, 0, -5, 10 * GREAT) for name in names(many)]
            rows = [(name, skill, draw.randrange(1, 10 * GREAT)) for name in names(many) for skill in names(13, "s")]
            drawn = shuffled(draw, rows)[:44]
            jobs, prices = best(town, (drawn[:22], drawn[22:]))
            self.assertEqual(bound(town, (drawn[:22], drawn[22:]), prices), moved(jobs))
