"""Flows, their worth and the sum that prices give: points 5 and 6."""

import unittest
from itertools import product

from hourring.nets import bound_by, is_circling, worth
from tests.helper import odd_things, outcome

ROOM = 10 ** 31
# A ring of three, and a shorter way from place 2 to place 1.
RING = [(0, 1, 5, 2), (1, 2, 7, -1), (2, 0, 5, 0), (2, 1, 3, 4)]


def wheel(many, room=ROOM, gain=1):
    """A ring through all places."""
    return [(at, (at + 1) % many, room, gain) for at in range(many)]


def crowd():
    """Thirty places and a hundred and twenty arcs, four rings by strides of 1, 7, 11 and 13."""
    return [(at, (at + step) % 30, step, step - 8) for step in (1, 7, 11, 13) for at in range(30)]


class Circling(unittest.TestCase):
    def good(self, many, arcs, flows):
        self.assertIs(outcome(is_circling, many, arcs, flows), True)

    def bad(self, many, arcs, flows):
        self.assertIs(outcome(is_circling, many, arcs, flows), False)

    def test_no_arcs(self):
        for many in [1, 2, 30]:
            self.good(many, [], [])
            self.bad(many, [], [0])

    def test_flows_that_go_round(self):
        for flows in [[0, 0, 0, 0], [1, 1, 1, 0], [5, 5, 5, 0], [0, 3, 0, 3], [2, 4, 2, 2], [4, 7, 4, 3]]:
            with self.subTest(flows):
                self.good(3, RING, flows)

    def test_flows_that_do_not_at_one_place_and_another(self):
        for flows in [[1, 0, 0, 0], [0, 1, 0, 0], [1, 1, 0, 0], [2, 1, 1, 0], [1, 1, 1, 1], [0, 0, 1, 0], [5, 6, 5, 2]]:
            with self.subTest(flows):
                self.bad(3, RING, flows)

    def test_flows_that_only_the_first_or_last_place_betrays_with_its_partner(self):
        arcs = [(0, 1, 9, 0), (1, 2, 9, 0), (2, 3, 9, 0), (3, 0, 9, 0)]
        for at in range(4):
            for other in [1, 3]:
                with self.subTest(at=at, other=other):
                    flows = [2, 2, 2, 2]
                    flows[at] = other
                    self.bad(4, arcs, flows)

    def test_there_and_back(self):
        arcs = [(0, 1, 4, 1), (1, 0, 4, 1)]
        self.good(2, arcs, [4, 4])
        self.bad(2, arcs, [4, 3])
        self.bad(2, arcs, [0, 1])

    def test_arcs_side_by_side(self):
        arcs = [(0, 1, 2, 1), (0, 1, 3, 1), (1, 0, 5, 0)]
        self.good(2, arcs, [2, 3, 5])
        self.good(2, arcs, [0, 3, 3])
        self.bad(2, arcs, [3, 2, 5])

    def test_rooms(self):
        self.good(3, wheel(3, 4), [4, 4, 4])
        self.bad(3, wheel(3, 4), [5, 5, 5])
        for at in range(3):
            with self.subTest(at):
                arcs = wheel(3, 9)
                arcs[at] = arcs[at][:2] + (4, 1)
                self.good(3, arcs, [4, 4, 4])
                self.bad(3, arcs, [5, 5, 5])

    def test_a_room_of_nothing(self):
        self.good(3, wheel(3, 0), [0, 0, 0])
        self.bad(3, wheel(3, 0), [1, 1, 1])

    def test_great_rooms(self):
        self.good(2, wheel(2), [ROOM, ROOM])
        self.bad(2, wheel(2), [ROOM + 1, ROOM + 1])
        self.bad(2, wheel(2), [ROOM, ROOM - 1])

    def test_flows_below_nothing(self):
        self.bad(3, wheel(3, 4), [-1, -1, -1])
        self.bad(2, [(0, 1, 4, 1), (0, 1, 4, 1), (1, 0, 4, 1)], [-1, 2, 1])
        self.bad(2, [(0, 1, 4, 1), (1, 0, 4, 1), (0, 1, 4, 1)], [2, 1, -1])

    def test_too_few_or_too_many_flows(self):
        self.bad(3, RING, [0, 0, 0])
        self.bad(3, RING, [0, 0, 0, 0, 0])
        self.bad(3, RING, [5, 5, 5])
        self.bad(3, RING, [])

    def test_true_and_false_are_no_flows(self):
        self.bad(2, wheel(2), [True, True])
        self.bad(2, wheel(2), [True, 1])
        self.bad(2, wheel(2), [0, False])

    def test_flows_of_another_kind(self):
        for number, thing in enumerate(odd_things()):
            with self.subTest(number):
                self.bad(3, RING, thing)
                self.bad(3, RING, [0, thing, 0, 0])

    def test_one_place_and_thirty(self):
        self.good(1, [], [])
        self.good(30, wheel(30), [ROOM] * 30)
        for at in range(30):
            with self.subTest(at):
                flows = [7] * 30
                flows[at] = 8
                self.bad(30, wheel(30), flows)

    def test_a_hundred_and_twenty_arcs(self):
        flows = [1] * 30 + [7] * 30 + [0] * 30 + [5] * 30
        self.assertEqual(len(crowd()), 120)
        self.good(30, crowd(), flows)
        self.bad(30, crowd(), flows[:-1] + [6])
        self.bad(30, crowd(), [2] * 30 + flows[30:])

    def test_somewhat_more_places_and_arcs(self):
        arcs = crowd() + [(29, 30, 1, 1), (30, 29, 1, 1)]
        self.good(31, arcs, [1] * 122)
        self.bad(31, arcs, [1] * 121 + [0])


class Worths(unittest.TestCase):
    def test_of_no_arcs(self):
        self.assertEqual(worth([], []), 0)

    def test_sum_of_flow_times_worth(self):
        self.assertEqual(worth(RING, [0, 0, 0, 0]), 0)
        self.assertEqual(worth(RING, [4, 7, 4, 3]), 4 * 2 - 7 + 0 + 3 * 4)
        self.assertEqual(worth(RING, [0, 1, 0, 0]), -1)

    def test_each_arc_counts(self):
        for at, told in enumerate([2, -1, 0, 4]):
            with self.subTest(at):
                flows = [0, 0, 0, 0]
                flows[at] = 3
                self.assertEqual(worth(RING, flows), 3 * told)

    def test_great_rooms_and_worths(self):
        self.assertEqual(worth(wheel(30, ROOM, 1000), [ROOM] * 30), 30000 * ROOM)
        self.assertEqual(worth(wheel(30, ROOM, -1000), [ROOM] * 30), -30000 * ROOM)

    def test_a_hundred_and_twenty_arcs(self):
        flows = [1] * 30 + [7] * 30 + [0] * 30 + [5] * 30
        self.assertEqual(worth(crowd(), flows), 30 * (1 * -7 + 7 * -1 + 0 + 5 * 5))


class Bounds(unittest.TestCase):
    def test_of_no_arcs(self):
        self.assertEqual(bound_by([], [0]), 0)
        self.assertEqual(bound_by([], [5, -5, 7]), 0)

    def test_prices_of_nothing(self):
        self.assertEqual(bound_by(RING, [0, 0, 0]), 5 * 2 + 3 * 4)

    def test_prices_of_either_sign(self):
        self.assertEqual(bound_by(RING, [0, 3, 0]), 5 * 5 + 0 + 0 + 3 * 7)
        self.assertEqual(bound_by(RING, [0, -3, 0]), 0 + 7 * 2 + 0 + 3 * 1)
        self.assertEqual(bound_by(RING, [0, -2, 2]), 0 + 7 * 3 + 0 + 0)
        self.assertEqual(bound_by(RING, [0, -2, -1]), 0 + 0 + 5 * 1 + 3 * 3)

    def test_the_price_at_the_start_is_taken_off_and_that_at_the_end_put_on(self):
        self.assertEqual(bound_by([(0, 1, 10, 1)], [0, 4]), 50)
        self.assertEqual(bound_by([(0, 1, 10, 1)], [4, 0]), 0)
        self.assertEqual(bound_by([(1, 0, 10, 1)], [0, -4]), 50)
        self.assertEqual(bound_by([(1, 0, 10, 1)], [-4, 0]), 0)

    def test_only_what_is_above_nothing_counts(self):
        arc, other = (0, 1, 10, -3), (1, 0, 4, 8)
        self.assertEqual(bound_by([arc, other], [0, 0]), 32)
        self.assertEqual(bound_by([arc, other], [0, 3]), 4 * 5)
        self.assertEqual(bound_by([arc, other], [0, 4]), 10 + 4 * 4)
        self.assertEqual(bound_by([arc], [0, 2]), 0)

    def test_a_room_of_nothing(self):
        self.assertEqual(bound_by([(0, 1, 0, 1000)], [0, 9]), 0)

    def test_great_rooms_worths_and_prices(self):
        self.assertEqual(bound_by(wheel(30, ROOM, 1000), [0] * 30), 30000 * ROOM)
        self.assertEqual(bound_by(wheel(30, ROOM, -1000), [0] * 30), 0)
        self.assertEqual(bound_by([(0, 1, ROOM, 1000)], [0, ROOM]), ROOM * (ROOM + 1000))
        self.assertEqual(bound_by([(0, 1, ROOM, 1000)], [0, -ROOM]), 0)

    def test_a_hundred_and_twenty_arcs(self):
        self.assertEqual(bound_by(crowd(), [0] * 30), 30 * (11 * 3 + 13 * 5))
        self.assertEqual(bound_by(crowd(), [9] * 30), 30 * (11 * 3 + 13 * 5))

    def test_no_flows_are_worth_more(self):
        arcs = [(start, end, min(room, 2), gain) for start, end, room, gain in RING]
        best = 0
        for flows in product(range(3), repeat=4):
            if is_circling(3, arcs, list(flows)):
                best = max(best, worth(arcs, list(flows)))
        bounds = [bound_by(arcs, [0, one, other]) for one in range(-6, 7) for other in range(-6, 7)]
        self.assertEqual(min(bounds), best)
