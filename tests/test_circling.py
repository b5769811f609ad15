"""Circulations: points 5 and 6."""

import random
import time
import unittest
from itertools import product

from hourring.circling import circulation
from hourring.nets import bound_by, is_circling, worth

ROOM = 10 ** 31
# Much more than a net of the largest size needs, and few enough seconds to be called a few.
SECONDS = 5


def ring(gains, room=9, first=0):
    """A ring of as many places as gains, from the first place on."""
    many = len(gains)
    return [(first + at, first + (at + 1) % many, room, gain) for at, gain in enumerate(gains)]


def best_of_all(many, arcs):
    """The greatest worth of flows, all of them tried one by one."""
    tried = product(*[range(room + 1) for _, _, room, _ in arcs])
    return max(worth(arcs, flows) for flows in map(list, tried) if is_circling(many, arcs, flows))


def drawn_net(draw, many, length, rooms, gains):
    """A net of so many arcs between drawn places, with rooms and gains that are drawn, too."""
    arcs = []
    while len(arcs) < length:
        start, end = draw.randrange(many), draw.randrange(many)
        if start != end:
            arcs.append((start, end, rooms(), gains()))
    return arcs


class Circulations(unittest.TestCase):
    def told(self, many, arcs):
        """Flows of a circulation, when its form is right and the prices show that they are worth the most."""
        pair = circulation(many, arcs)
        self.assertIs(pair.__class__, tuple)
        flows, prices = pair
        self.assertIs(flows.__class__, list)
        self.assertIs(prices.__class__, list)
        self.assertEqual({flow.__class__ for flow in flows} | {price.__class__ for price in prices}, {int})
        self.assertIs(is_circling(many, arcs, flows), True)
        self.assertEqual(len(prices), many)
        self.assertEqual(prices[0], 0)
        self.assertEqual(bound_by(arcs, prices), worth(arcs, flows))
        return flows

    def is_worth(self, many, arcs, most):
        self.assertEqual(worth(arcs, self.told(many, arcs)), most)

    def test_no_arcs(self):
        for many in [1, 2, 30]:
            with self.subTest(many):
                self.assertEqual(self.told(many, []), [])

    def test_one_place(self):
        self.assertEqual(circulation(1, []), ([], [0]))

    def test_a_ring_that_gains_is_filled(self):
        self.assertEqual(self.told(3, ring([5, -2, -2])), [9, 9, 9])
        self.assertEqual(self.told(2, ring([1, 0])), [9, 9])
        self.assertEqual(self.told(30, ring([1] + [0] * 29, ROOM)), [ROOM] * 30)
        self.is_worth(30, ring([1000] * 30, ROOM), 30000 * ROOM)

    def test_a_ring_that_gains_just_one(self):
        self.assertEqual(self.told(30, ring([1000, -1000] * 14 + [1000, -999])), [9] * 30)
        self.assertEqual(self.told(29, ring([1000, -1000] * 14 + [1])), [9] * 29)

    def test_a_ring_that_neither_gains_nor_loses(self):
        self.is_worth(3, ring([4, -2, -2]), 0)
        self.is_worth(2, ring([0, 0]), 0)
        self.is_worth(30, ring([1000, -1000] * 15, ROOM), 0)

    def test_a_ring_that_loses_stays_empty(self):
        self.assertEqual(self.told(3, ring([3, -2, -2])), [0, 0, 0])
        self.assertEqual(self.told(2, ring([0, -1])), [0, 0])
        self.assertEqual(self.told(30, ring([1000, -1000] * 14 + [999, -1000], ROOM)), [0] * 30)
        self.assertEqual(self.told(30, ring([-1000] * 30, ROOM)), [0] * 30)

    def test_the_least_room_of_a_ring_counts_wherever_it_is(self):
        for at in range(4):
            with self.subTest(at):
                arcs = ring([1, 1, -1, 1])
                arcs[at] = arcs[at][:2] + (4, arcs[at][3])
                self.assertEqual(self.told(4, arcs), [4] * 4)

    def test_rings_apart(self):
        arcs = ring([2, -1], 5) + ring([1, -3], 5, 2) + ring([3, 0, 0], 7, 4)
        self.assertEqual(self.told(8, arcs), [5, 5, 0, 0, 7, 7, 7])

    def test_rings_that_share_a_place(self):
        inner, outer = [(0, 1, 5, 4), (1, 0, 5, -1)], [(1, 2, 8, 1), (2, 1, 8, 1)]
        self.assertEqual(self.told(3, inner + outer), [5, 5, 8, 8])
        losing = [(1, 2, 8, 1), (2, 1, 8, -2)]
        self.assertEqual(self.told(3, inner + losing), [5, 5, 0, 0])
        star = [arc for at in range(1, 30) for arc in [(0, at, at, 15), (at, 0, ROOM, -at)]]
        self.is_worth(30, star, sum(at * (15 - at) for at in range(1, 15)))

    def test_rings_that_share_an_arc_take_the_better_one_first(self):
        arcs = [(0, 1, 5, 0), (1, 0, 3, 7), (1, 2, 9, 2), (2, 0, 9, 2)]
        self.assertEqual(self.told(3, arcs), [5, 3, 2, 2])
        arcs = [(0, 1, 5, 0), (1, 0, 3, 4), (1, 2, 9, 2), (2, 0, 9, 3)]
        self.assertEqual(self.told(3, arcs), [5, 0, 5, 5])

    def test_a_ring_that_loses_along_a_part_gains_through_another(self):
        arcs = [(0, 1, 5, 10), (1, 2, 5, -6), (2, 0, 5, -6), (1, 0, 2, -9)]
        self.assertEqual(self.told(3, arcs), [2, 0, 0, 2])

    def test_there_and_back_of_contrary_worths(self):
        for gain in [0, 1, 999, 1000]:
            with self.subTest(gain):
                self.is_worth(2, [(0, 1, 5, gain), (1, 0, 5, -gain)], 0)
                self.is_worth(2, [(1, 0, ROOM, gain), (0, 1, 3, -gain)], 0)
        self.assertEqual(self.told(2, [(0, 1, 5, 1000), (1, 0, 9, -999)]), [5, 5])
        self.assertEqual(self.told(2, [(0, 1, 5, -1000), (1, 0, 9, 999)]), [0, 0])

    def test_arcs_side_by_side(self):
        arcs = [(0, 1, 2, 1), (0, 1, 3, 5), (0, 1, 4, -9), (1, 0, 20, 0)]
        self.assertEqual(self.told(2, arcs), [2, 3, 0, 5])
        arcs = [(0, 1, 2, 1), (0, 1, 3, 5), (0, 1, 4, -9), (1, 0, 4, 0)]
        self.assertEqual(self.told(2, arcs), [1, 3, 0, 4])
        self.is_worth(2, [(0, 1, 4, 3)] * 5 + [(1, 0, 7, -2)], 7)
        self.is_worth(2, [(at % 2, 1 - at % 2, ROOM, 1000) for at in range(120)], 120000 * ROOM)

    def test_arcs_of_no_room(self):
        self.assertEqual(self.told(3, ring([1000] * 3, 0)), [0, 0, 0])
        for at in range(3):
            with self.subTest(at):
                arcs = ring([1000] * 3)
                arcs[at] = arcs[at][:2] + (0, 1000)
                self.assertEqual(self.told(3, arcs), [0, 0, 0])
        self.assertEqual(self.told(3, ring([1] * 3) + [(1, 0, 0, 1000)]), [9, 9, 9, 0])

    def test_arcs_that_lead_round_nowhere(self):
        line = [(at, at + 1, ROOM, 1000) for at in range(29)]
        self.assertEqual(self.told(30, line), [0] * 29)
        back = [(end, start, room, gain) for start, end, room, gain in line]
        self.assertEqual(self.told(30, back), [0] * 29)
        self.assertEqual(self.told(3, [(0, 2, 5, 9), (1, 2, 5, 9)]), [0, 0])
        self.assertEqual(self.told(5, ring([1, 1]) + [(1, 2, 9, 1000), (2, 3, 9, 1000), (4, 0, 9, 1000)])[2:], [0] * 3)

    def test_a_line_that_gains_all_it_can_has_prices(self):
        many, length = 30, 120
        ways = [(start, end) for start in range(many) for end in range(start + 1, many)]
        self.assertEqual(self.told(many, [way + (ROOM, 1000) for way in ways[:length]]), [0] * length)

    def test_rooms_far_unlike(self):
        arcs = ring([1, 0, 0], ROOM) + [(1, 0, 1, 500), (0, 2, 10 ** 15, 0)]
        self.is_worth(3, arcs, ROOM + 500)
        arcs = [(0, 1, ROOM, 1), (1, 0, 1, -1000), (1, 0, ROOM - 1, 0)]
        self.assertEqual(self.told(2, arcs), [ROOM - 1, 0, ROOM - 1])
        self.assertEqual(self.told(2, [(0, 1, ROOM, 1), (1, 0, 1, 0)]), [1, 1])
        halves = [arc for at in range(29) for arc in [(at, at + 1, 2 ** at, 1), (at, at + 1, ROOM, -1)]]
        self.is_worth(30, halves + [(29, 0, ROOM, 29)], sum((2 ** at) * 2 for at in range(29)))

    def test_all_small_nets_of_two_places(self):
        kinds = [(start, 1 - start, room, gain) for start in [0, 1] for room in [0, 1, 2] for gain in [-2, 0, 1, 2]]
        for arcs in product(kinds, repeat=2):
            self.is_worth(2, list(arcs), best_of_all(2, arcs))

    def test_small_nets_against_all_flows(self):
        draw = random.Random(61)
        for number in range(700):
            many = draw.randrange(2, 6)
            arcs = drawn_net(draw, many, draw.randrange(7), lambda: draw.randrange(4), lambda: draw.randrange(-4, 5))
            with self.subTest(number=number, many=many, arcs=arcs):
                self.is_worth(many, arcs, best_of_all(many, arcs))

    def test_small_nets_of_great_worths_against_all_flows(self):
        draw = random.Random(62)
        for number in range(300):
            many = draw.randrange(2, 5)
            gains = [-1000, -999, -1, 0, 1, 999, 1000]
            arcs = drawn_net(draw, many, 6, lambda: draw.randrange(3), lambda: draw.choice(gains))
            with self.subTest(number=number, many=many, arcs=arcs):
                self.is_worth(many, arcs, best_of_all(many, arcs))

    def test_a_net_whose_best_ring_gains_little_for_its_worths(self):
        # One that prices a little too coarse do not see through.
        arcs = [(1, 0, 1, -3), (3, 1, 9, 454), (1, 4, 1, 4), (0, 2, 5, -1), (2, 4, 9, -1), (4, 3, 1, -4)]
        arcs.append((4, 3, 5, -448))
        self.is_worth(5, arcs, best_of_all(5, arcs))
        wide = [(start, end, room * 10 ** 30, gain) for start, end, room, gain in arcs]
        self.is_worth(5, wide, best_of_all(5, arcs) * 10 ** 30)

    def test_the_worth_grows_as_the_rooms_do(self):
        draw = random.Random(63)
        for number in range(100):
            arcs = drawn_net(draw, 4, 6, lambda: draw.randrange(4), lambda: draw.randrange(-4, 5))
            wide = [(start, end, room * (ROOM // 3), gain) for start, end, room, gain in arcs]
            with self.subTest(number=number, arcs=arcs):
                self.is_worth(4, wide, best_of_all(4, arcs) * (ROOM // 3))

    def test_nets_of_the_largest_size_are_answered_soon(self):
        draw = random.Random(64)
        all_rooms = [
            lambda: ROOM, lambda: draw.randrange(ROOM + 1), lambda: 10 ** draw.randrange(32), lambda: draw.randrange(5),
            lambda: 2 ** draw.randrange(103), lambda: draw.choice([0, 1, ROOM]),
        ]
        all_gains = [
            lambda: draw.randrange(-1000, 1001), lambda: draw.choice([-1000, 1000]), lambda: draw.randrange(-2, 3),
            lambda: draw.choice([1000, -1, -1, -999, 0]), lambda: draw.randrange(1001),
        ]
        for number, (rooms, gains) in enumerate(product(all_rooms, all_gains)):
            for many in [2, 30]:
                arcs = drawn_net(draw, many, 120, rooms, gains)
                with self.subTest(number=number, many=many):
                    self.soon(many, arcs)

    def test_long_rings_of_the_largest_size_are_answered_soon(self):
        for rooms in [[ROOM] * 4, [1] * 4, [ROOM, 1, 10 ** 15, 2], [2 ** 100, 3 ** 60, 5 ** 40, 7 ** 30]]:
            for gains in [[1000, 999, -1000, -999], [1, -1, 1000, -1000], [-1, -1, 1, 2], [1000] * 4]:
                arcs = [
                    (at, (at + step) % 30, room, gain)
                    for step, room, gain in zip([1, 29, 7, 23], rooms, gains) for at in range(30)
                ]
                with self.subTest(rooms=rooms, gains=gains):
                    self.soon(30, arcs)

    def soon(self, many, arcs):
        begun = time.perf_counter()
        self.told(many, arcs)
        self.assertLess(time.perf_counter() - begun, SECONDS)

    def test_somewhat_beyond_what_a_net_has(self):
        draw = random.Random(65)
        arcs = drawn_net(draw, 33, 130, lambda: draw.randrange(ROOM * 10), lambda: draw.randrange(-1100, 1101))
        self.told(33, arcs)
