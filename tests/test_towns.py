"""Towns: point 2."""

import unittest

from hourring.errors import BadTown, RingError
from hourring.towns import need_town
from tests.helper import GREAT, OTHER_SIGNS, even_town, odd_things, outcome


class Towns(unittest.TestCase):
    def good(self, town):
        self.assertIs(outcome(need_town, town), None)

    def bad(self, town):
        self.assertIs(outcome(need_town, town), BadTown)

    def test_refusals_are_ring_errors_and_value_errors(self):
        self.assertRaises(RingError, need_town, None)
        self.assertRaises(ValueError, need_town, None)

    def test_none_to_twelve_neighbours(self):
        for many in range(0, 13):
            with self.subTest(many):
                self.good(even_town(many))

    def test_thirteen_neighbours_or_more(self):
        for many in [13, 14, 100]:
            with self.subTest(many):
                self.bad(even_town(many))

    def test_names_of_one_and_of_eight_letters(self):
        self.good([("a", 0, 0, 0), ("abcdefgh", 0, 0, 0), ("z", 0, 0, 0), ("zzzzzzzz", 0, 0, 0)])

    def test_names_that_are_none(self):
        for name in ["", "abcdefghi"]:
            with self.subTest(name):
                self.bad([(name, 0, 0, 0)])
                self.bad([("ann", 0, 0, 0), (name, 0, 0, 0)])
        for sign in OTHER_SIGNS:
            for name in [sign, sign + "b", "a" + sign + "b", "a" + sign]:
                with self.subTest(name):
                    self.bad([(name, 0, 0, 0)])

    def test_a_name_twice(self):
        self.bad([("ann", 0, 0, 0), ("ann", 0, 0, 0)])
        self.bad([("ann", 0, 0, 0), ("bob", 0, 0, 0), ("ann", 1, 0, 2)])
        self.bad(even_town(11) + even_town(1))
        self.good([("ann", 0, 0, 0), ("anna", 0, 0, 0)])

    def test_purse_floor_and_ceiling_at_their_bounds(self):
        self.good([("ann", GREAT, GREAT, GREAT)])
        self.good([("ann", -GREAT, -GREAT, -GREAT)])
        self.good([("ann", 0, -GREAT, GREAT)])
        self.good([("ann", -GREAT, -GREAT, GREAT), ("bob", GREAT, -GREAT, GREAT)])

    def test_purse_floor_and_ceiling_one_beyond(self):
        self.bad([("ann", 0, -GREAT - 1, GREAT)])
        self.bad([("ann", 0, -GREAT, GREAT + 1)])
        self.bad([("ann", GREAT + 1, 0, GREAT + 1)])
        self.bad([("ann", -GREAT - 1, -GREAT - 1, 0)])
        self.bad([("ann", GREAT + 1, GREAT + 1, GREAT + 1)])
        self.bad([("ann", 10 ** 5000, 0, 10 ** 5000)])

    def test_a_purse_from_its_floor_to_its_ceiling(self):
        for purse in range(-3, 6):
            with self.subTest(purse):
                self.good([("ann", purse, -3, 5)])
        self.good([("ann", 4, 4, 4)])

    def test_a_purse_out_of_its_bounds(self):
        self.bad([("ann", -4, -3, 5)])
        self.bad([("ann", 6, -3, 5)])
        self.bad([("ann", 0, 1, 5)])
        self.bad([("ann", 0, -5, -1)])
        self.bad([("bob", 0, 0, 0), ("ann", 1, 0, 0)])

    def test_a_floor_above_its_ceiling(self):
        for purse in [1, 2, 3, 4]:
            with self.subTest(purse):
                self.bad([("ann", purse, 3, 2)])

    def test_purses_that_do_not_add_up_to_nothing(self):
        self.good([("ann", 1, 0, 5), ("bob", 2, 0, 5)])

    def test_true_and_false_are_no_numbers(self):
        self.bad([("ann", True, 0, 1)])
        self.bad([("ann", False, 0, 1)])
        self.bad([("ann", 0, False, 1)])
        self.bad([("ann", 0, 0, True)])

    def test_odd_things_at_each_place_of_a_row(self):
        for at in range(4):
            for number, thing in enumerate(odd_things()):
                if at in (2, 3) and thing.__class__ is int:
                    continue
                with self.subTest(at=at, number=number):
                    row = ["ann", 0, 0, 0]
                    row[at] = thing
                    self.bad([tuple(row)])

    def test_rows_that_are_lists(self):
        self.bad([["ann", 0, 0, 0]])
        self.bad([("ann", 0, 0, 0), ["bob", 0, 0, 0]])

    def test_rows_too_short_or_too_long(self):
        for row in [(), ("ann",), ("ann", 0), ("ann", 0, 0), ("ann", 0, 0, 0, 0), ("ann", 0, 0, 0, "x")]:
            with self.subTest(row):
                self.bad([row])
                self.bad([("bob", 0, 0, 0), row])

    def test_rows_that_are_odd_things(self):
        for number, thing in enumerate(odd_things()):
            with self.subTest(number):
                self.bad([thing])
                self.bad([("bob", 0, 0, 0), thing])

    def test_a_town_that_is_no_list(self):
        for town in [(), (("ann", 0, 0, 0),), {}, {"ann": (0, 0, 0)}, {("ann", 0, 0, 0)}, "ann", 1]:
            with self.subTest(town):
                self.bad(town)
        for number, thing in enumerate(odd_things()):
            with self.subTest(number):
                self.bad(thing)
