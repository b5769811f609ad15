"""Days: point 3, and of point 8 the order of the skills."""

import unittest

from hourring.errors import BadDay, RingError
from hourring.towns import need_day, skills_of
from tests.helper import GREAT, OTHER_SIGNS, even_town, names, odd_things, outcome, spread

TOWN = [("ann", 0, -9, 9), ("bob", 0, -9, 9), ("cleo", 0, -9, 9)]


class Days(unittest.TestCase):
    def good(self, day, town=TOWN):
        self.assertIs(outcome(need_day, town, day), None)

    def bad(self, day, town=TOWN):
        self.assertIs(outcome(need_day, town, day), BadDay)

    def either_side(self, judge, row):
        judge(([row], []))
        judge(([], [row]))
        judge(([("bob", "dig", 1), row], [("cleo", "dig", 1)]))
        judge(([("bob", "dig", 1)], [("cleo", "dig", 1), row]))

    def test_refusals_are_ring_errors_and_value_errors(self):
        self.assertRaises(RingError, need_day, TOWN, None)
        self.assertRaises(ValueError, need_day, TOWN, None)

    def test_a_day_of_none(self):
        self.good(([], []))
        self.good(([], []), [])

    def test_an_ordinary_day(self):
        self.good(([("ann", "dig", 3), ("bob", "sew", 1)], [("bob", "dig", 2), ("cleo", "sew", 4)]))

    def test_forty_offers_and_wishes(self):
        town = even_town(12)
        for cut in [0, 1, 20, 39, 40]:
            with self.subTest(cut):
                rows = spread(40)
                self.good((rows[:cut], rows[cut:]), town)

    def test_forty_one_offers_and_wishes(self):
        town = even_town(12)
        for cut in [0, 1, 20, 40, 41]:
            with self.subTest(cut):
                rows = spread(41)
                self.bad((rows[:cut], rows[cut:]), town)

    def test_twelve_skills(self):
        rows = [("ann", skill, 1) for skill in names(12)]
        for cut in [0, 6, 12]:
            with self.subTest(cut):
                self.good((rows[:cut], rows[cut:]))
        wishes = [("bob", skill, 1) for skill in names(12)]
        self.good((rows, wishes))

    def test_thirteen_skills(self):
        rows = [("ann", skill, 1) for skill in names(13)]
        for cut in [0, 1, 6, 12, 13]:
            with self.subTest(cut):
                self.bad((rows[:cut], rows[cut:]))

    def test_hours(self):
        for hours in [1, 2, GREAT - 1, GREAT]:
            with self.subTest(hours):
                self.either_side(self.good, ("ann", "dig", hours))
        for hours in [0, -1, -GREAT, GREAT + 1, 10 ** 5000, True, False]:
            with self.subTest(hours.bit_length()):
                self.either_side(self.bad, ("ann", "dig", hours))

    def test_a_name_that_is_no_neighbour(self):
        for name in ["dora", "an", "anna", "a", "", "Ann", "abcdefghi"]:
            with self.subTest(name):
                self.either_side(self.bad, (name, "dig", 1))
        self.bad(([("ann", "dig", 1)], []), [])

    def test_skills_are_names(self):
        for skill in ["a", "abcdefgh", "ann"]:
            with self.subTest(skill):
                self.either_side(self.good, ("ann", skill, 1))
        for skill in ["", "abcdefghi"] + OTHER_SIGNS + [f"d{sign}g" for sign in OTHER_SIGNS]:
            with self.subTest(skill):
                self.either_side(self.bad, ("ann", skill, 1))

    def test_a_neighbour_and_a_skill_twice(self):
        row, again = ("ann", "dig", 1), ("ann", "dig", 2)
        for other in [row, again]:
            with self.subTest(other):
                self.bad(([row, other], []))
                self.bad(([], [row, other]))
                self.bad(([row], [other]))
                self.bad(([row, ("bob", "dig", 1)], [("cleo", "sew", 1), other]))

    def test_a_neighbour_twice_with_other_skills(self):
        self.good(([("ann", "dig", 1), ("ann", "sew", 1)], [("ann", "cook", 1)]))
        self.good(([("ann", "dig", 1), ("bob", "dig", 1)], [("cleo", "dig", 1)]))

    def test_a_day_that_is_no_pair(self):
        for day in [[[], []], [], (), ([],), ([], [], []), {}, "ab", None, ([], [], None)]:
            with self.subTest(day):
                self.bad(day)
        for number, thing in enumerate(odd_things()):
            with self.subTest(number):
                self.bad(thing)

    def test_sides_that_are_no_lists(self):
        row = ("ann", "dig", 1)
        for side in [(), (row,), {}, {row: 1}, {row}, None, "", 0]:
            with self.subTest(side):
                self.bad((side, []))
                self.bad(([], side))
                self.bad((side, side))
        for number, thing in enumerate(odd_things()):
            with self.subTest(number):
                self.bad((thing, []))
                self.bad(([], thing))

    def test_rows_of_another_kind_or_length(self):
        for row in [["ann", "dig", 1], (), ("ann",), ("ann", "dig"), ("ann", "dig", 1, 1), "dig", None, {}]:
            with self.subTest(row):
                self.either_side(self.bad, row)
        for number, thing in enumerate(odd_things()):
            with self.subTest(number):
                self.either_side(self.bad, thing)

    def test_odd_things_at_each_place_of_a_row(self):
        for at in range(3):
            for number, thing in enumerate(odd_things()):
                with self.subTest(at=at, number=number):
                    row = ["ann", "dig", 1]
                    row[at] = thing
                    self.either_side(self.bad, tuple(row))

    def test_what_is_no_town_has_no_days(self):
        for number, thing in enumerate(odd_things()):
            with self.subTest(number):
                self.bad(([], []), thing)


class Skills(unittest.TestCase):
    def test_none(self):
        self.assertEqual(skills_of(([], [])), [])

    def test_offers_ahead_of_wishes(self):
        day = ([("ann", "sew", 1), ("bob", "dig", 1)], [("ann", "cook", 1), ("bob", "bake", 1)])
        self.assertEqual(skills_of(day), ["sew", "dig", "cook", "bake"])

    def test_each_once_where_it_is_first_named(self):
        offers = [("ann", "sew", 1), ("ann", "dig", 1), ("bob", "sew", 1)]
        wishes = [("cleo", "dig", 1), ("cleo", "cook", 1), ("bob", "cook", 1), ("cleo", "sew", 1)]
        self.assertEqual(skills_of((offers, wishes)), ["sew", "dig", "cook"])

    def test_only_wishes(self):
        self.assertEqual(skills_of(([], [("ann", "sew", 1), ("bob", "dig", 1)])), ["sew", "dig"])

    def test_forty_rows_and_twelve_skills(self):
        skills = list(reversed(names(12)))
        offers = [(name, skill, 1) for name in ["ann", "bob"] for skill in skills]
        self.assertEqual(skills_of((offers, [("cleo", skill, 1) for skill in names(12)])), skills)

    def test_the_list_is_the_askers_own(self):
        day = ([("ann", "sew", 1)], [("bob", "dig", 1)])
        told = skills_of(day)
        self.assertIs(told.__class__, list)
        told.append("cook")
        self.assertEqual(skills_of(day), ["sew", "dig"])
        self.assertEqual(day, ([("ann", "sew", 1)], [("bob", "dig", 1)]))
