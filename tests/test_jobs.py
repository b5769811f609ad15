"""Exchanges: point 4."""

import unittest

from hourring.towns import is_exchange, moved, need_day, need_town
from tests.helper import GREAT, OTHER_SIGNS, odd_things, outcome

TOWN = [("ann", 0, -9, 9), ("bob", 0, -9, 9), ("cleo", 0, -9, 9)]
DAY = ([("ann", "dig", 5), ("bob", "sew", 4)], [("bob", "dig", 3), ("cleo", "dig", 4), ("ann", "sew", 2)])


def one_skill(offered, wished):
    """A day on which ann digs and bob has it done."""
    return ([("ann", "dig", offered)], [("bob", "dig", wished)])


class Exchanges(unittest.TestCase):
    def told(self, jobs, answer, town=TOWN, day=DAY):
        self.assertIs(outcome(need_town, town), None)
        self.assertIs(outcome(need_day, town, day), None)
        self.assertIs(outcome(is_exchange, town, day, jobs), answer)

    def good(self, jobs, town=TOWN, day=DAY):
        self.told(jobs, True, town, day)

    def bad(self, jobs, town=TOWN, day=DAY):
        self.told(jobs, False, town, day)

    def test_no_jobs(self):
        self.good([])
        self.good([], [], ([], []))

    def test_jobs_within_what_is_offered_and_wished_for(self):
        self.good([("ann", "bob", "dig", 1)])
        self.good([("ann", "bob", "dig", 2), ("ann", "cleo", "dig", 2), ("bob", "ann", "sew", 1)])

    def test_the_order_of_jobs_is_free(self):
        self.good([("bob", "ann", "sew", 1), ("ann", "cleo", "dig", 2), ("ann", "bob", "dig", 2)])

    def test_just_all_that_is_offered_and_wished_for(self):
        self.good([("ann", "bob", "dig", 3), ("ann", "cleo", "dig", 2), ("bob", "ann", "sew", 2)])
        self.good([("ann", "bob", "dig", 4)], day=one_skill(4, 4))

    def test_one_hour_more_than_is_offered(self):
        self.bad([("ann", "bob", "dig", 5)], day=one_skill(4, 9))
        self.bad([("ann", "bob", "dig", 3), ("ann", "cleo", "dig", 3)])

    def test_one_hour_more_than_is_wished_for(self):
        self.bad([("ann", "bob", "dig", 5)], day=one_skill(9, 4))
        self.bad([("ann", "bob", "dig", 4)])
        day = ([("ann", "dig", 5), ("cleo", "dig", 5)], [("bob", "dig", 6)])
        self.good([("ann", "bob", "dig", 3), ("cleo", "bob", "dig", 3)], day=day)
        self.bad([("ann", "bob", "dig", 3), ("cleo", "bob", "dig", 4)], day=day)

    def test_hours_are_counted_for_each_skill_alone(self):
        day = ([("ann", "dig", 2), ("ann", "sew", 3)], [("bob", "dig", 2), ("bob", "sew", 3)])
        self.good([("ann", "bob", "dig", 2), ("ann", "bob", "sew", 3)], day=day)
        self.bad([("ann", "bob", "dig", 3), ("ann", "bob", "sew", 2)], day=day)

    def test_hours_are_counted_for_each_neighbour_alone(self):
        day = ([("ann", "dig", 2), ("cleo", "dig", 3)], [("bob", "dig", 9)])
        self.good([("ann", "bob", "dig", 2), ("cleo", "bob", "dig", 3)], day=day)
        self.bad([("ann", "bob", "dig", 3), ("cleo", "bob", "dig", 2)], day=day)

    def test_very_great_hours(self):
        town = [("ann", -GREAT, -GREAT, GREAT), ("bob", GREAT, -GREAT, GREAT)]
        self.good([("ann", "bob", "dig", GREAT)], town, one_skill(GREAT, GREAT))
        self.bad([("ann", "bob", "dig", GREAT + 1)], town, one_skill(GREAT, GREAT))
        self.bad([("ann", "bob", "dig", GREAT)], town, one_skill(GREAT - 1, GREAT))
        self.bad([("ann", "bob", "dig", GREAT)], town, one_skill(GREAT, GREAT - 1))
        self.bad([("ann", "bob", "dig", 10 ** 5000)], town, one_skill(GREAT, GREAT))

    def test_a_purse_at_its_ceiling_and_one_beyond(self):
        town = [("ann", 2, 0, 5), ("bob", 0, -9, 9)]
        self.good([("ann", "bob", "dig", 3)], town, one_skill(9, 9))
        self.bad([("ann", "bob", "dig", 4)], town, one_skill(9, 9))

    def test_a_purse_at_its_floor_and_one_beyond(self):
        town = [("ann", 0, -9, 9), ("bob", 2, -1, 5)]
        self.good([("ann", "bob", "dig", 3)], town, one_skill(9, 9))
        self.bad([("ann", "bob", "dig", 4)], town, one_skill(9, 9))

    def test_a_purse_that_cannot_move(self):
        self.bad([("ann", "bob", "dig", 1)], [("ann", 4, 4, 4), ("bob", 0, -9, 9)], one_skill(9, 9))
        self.bad([("ann", "bob", "dig", 1)], [("ann", 0, -9, 9), ("bob", 4, 4, 4)], one_skill(9, 9))

    def test_the_sum_of_jobs_carries_a_purse_out_of_its_bounds(self):
        day = ([("ann", "dig", 9), ("ann", "sew", 9)], [("bob", "dig", 9), ("cleo", "sew", 9)])
        town = [("ann", 0, -9, 5), ("bob", 0, -9, 9), ("cleo", 0, -9, 9)]
        self.good([("ann", "bob", "dig", 3)], town, day)
        self.good([("ann", "cleo", "sew", 3)], town, day)
        self.good([("ann", "bob", "dig", 3), ("ann", "cleo", "sew", 2)], town, day)
        self.bad([("ann", "bob", "dig", 3), ("ann", "cleo", "sew", 3)], town, day)
        wishes = ([("bob", "dig", 9), ("cleo", "sew", 9)], [("ann", "dig", 9), ("ann", "sew", 9)])
        town = [("ann", 0, -5, 9), ("bob", 0, -9, 9), ("cleo", 0, -9, 9)]
        self.good([("bob", "ann", "dig", 3), ("cleo", "ann", "sew", 2)], town, wishes)
        self.bad([("bob", "ann", "dig", 3), ("cleo", "ann", "sew", 3)], town, wishes)

    def test_the_sum_of_jobs_keeps_purses_in_their_bounds(self):
        day = ([("ann", "dig", 9), ("bob", "sew", 9), ("cleo", "cook", 9)],
               [("bob", "dig", 9), ("cleo", "sew", 9), ("ann", "cook", 9)])
        still = [("ann", 0, 0, 0), ("bob", 3, 3, 3), ("cleo", -3, -3, -3)]
        ring = [("ann", "bob", "dig", 7), ("bob", "cleo", "sew", 7), ("cleo", "ann", "cook", 7)]
        self.good(ring, still, day)
        for at in range(3):
            with self.subTest(at):
                self.bad(ring[:at] + ring[at + 1:], still, day)
        uneven = ring[:2] + [("cleo", "ann", "cook", 8)]
        self.bad(uneven, still, day)
        self.good(uneven, [("ann", 0, -1, 0), ("bob", 3, 3, 3), ("cleo", -3, -3, -2)], day)

    def test_a_giver_taker_and_skill_twice(self):
        self.bad([("ann", "bob", "dig", 1), ("ann", "bob", "dig", 1)])
        self.bad([("ann", "bob", "dig", 1), ("bob", "ann", "sew", 1), ("ann", "bob", "dig", 2)])

    def test_two_of_giver_taker_and_skill_twice(self):
        day = ([("ann", "dig", 5), ("ann", "sew", 5), ("cleo", "dig", 5)], [("bob", "dig", 5), ("bob", "sew", 5)])
        self.good([("ann", "bob", "dig", 1), ("ann", "bob", "sew", 1), ("cleo", "bob", "dig", 1)], day=day)
        self.good([("ann", "bob", "dig", 1), ("ann", "cleo", "dig", 1)])

    def test_giver_and_taker_exchanged(self):
        self.bad([("bob", "ann", "dig", 1)])
        self.bad([("ann", "bob", "sew", 1)])
        self.bad([("cleo", "ann", "dig", 1)])

    def test_a_giver_who_does_not_offer(self):
        self.bad([("cleo", "bob", "dig", 1)])
        self.bad([("ann", "ann", "sew", 1)])
        self.bad([("ann", "bob", "dig", 1), ("cleo", "bob", "dig", 1)])

    def test_a_taker_who_does_not_wish(self):
        self.bad([("ann", "ann", "dig", 1)])
        self.bad([("bob", "cleo", "sew", 1)])
        self.bad([("ann", "bob", "dig", 1), ("bob", "cleo", "sew", 1)])

    def test_names_and_skills_that_there_are_not(self):
        for job in [("dora", "bob", "dig", 1), ("ann", "dora", "dig", 1), ("ann", "bob", "cook", 1)]:
            with self.subTest(job):
                self.bad([job])
                self.bad([("bob", "ann", "sew", 1), job])

    def test_names_and_skills_that_are_none(self):
        for at in range(3):
            for text in ["", "abcdefghi"] + OTHER_SIGNS:
                with self.subTest(at=at, text=text):
                    job = ["ann", "bob", "dig", 1]
                    job[at] = text
                    self.bad([tuple(job)])

    def test_hours_below_one(self):
        for hours in [0, -1, -GREAT, -10 ** 5000]:
            with self.subTest(hours.bit_length()):
                self.bad([("ann", "bob", "dig", hours)])
                self.bad([("ann", "cleo", "dig", 2), ("ann", "bob", "dig", hours)])

    def test_true_and_false_are_no_hours(self):
        self.bad([("ann", "bob", "dig", True)])
        self.bad([("ann", "bob", "dig", False)])

    def test_jobs_that_are_no_list(self):
        job = ("ann", "bob", "dig", 1)
        for jobs in [(), (job,), {}, {job: 1}, {job}, None, "", job]:
            with self.subTest(jobs):
                self.bad(jobs)
        for number, thing in enumerate(odd_things()):
            with self.subTest(number):
                self.bad(thing)

    def test_rows_that_are_no_tuples_or_of_another_length(self):
        for row in [["ann", "bob", "dig", 1], (), ("ann",), ("ann", "bob", "dig"), ("ann", "bob", "dig", 1, 1)]:
            with self.subTest(row):
                self.bad([row])
                self.bad([("bob", "ann", "sew", 1), row])
        for number, thing in enumerate(odd_things()):
            with self.subTest(number):
                self.bad([thing])
                self.bad([("bob", "ann", "sew", 1), thing])

    def test_odd_things_at_each_place_of_a_job(self):
        for at in range(4):
            for number, thing in enumerate(odd_things()):
                with self.subTest(at=at, number=number):
                    job = ["ann", "bob", "dig", 1]
                    job[at] = thing
                    self.bad([tuple(job)])

    def test_what_is_no_town_or_no_day_has_no_exchange(self):
        for number, thing in enumerate(odd_things()):
            with self.subTest(number):
                self.assertIs(outcome(is_exchange, thing, ([], []), []), False)
                self.assertIs(outcome(is_exchange, TOWN, thing, []), False)
                self.assertIs(outcome(is_exchange, thing, thing, thing), False)


class Moved(unittest.TestCase):
    def test_of_none(self):
        self.assertEqual(moved([]), 0)

    def test_of_one_and_of_several(self):
        self.assertEqual(moved([("ann", "bob", "dig", 7)]), 7)
        self.assertEqual(moved([("ann", "bob", "dig", 7), ("bob", "cleo", "sew", 1), ("ann", "cleo", "dig", 30)]), 38)

    def test_of_very_great_hours(self):
        jobs = [("ann", "bob", "dig", GREAT), ("bob", "ann", "sew", GREAT), ("ann", "cleo", "dig", 1)]
        self.assertEqual(moved(jobs), 2 * GREAT + 1)

    def test_is_an_int(self):
        self.assertIs(moved([]).__class__, int)
        self.assertIs(moved([("ann", "bob", "dig", 7)]).__class__, int)
