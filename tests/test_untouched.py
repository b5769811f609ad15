"""Point 1: what is handed in stays as it was, and answers hang on nothing but it."""

import unittest
from copy import deepcopy

from hourring.circling import circulation
from hourring.exchanges import best
from hourring.nets import bound_by, is_circling, worth
from hourring.pairing import paired
from hourring.papers import bound, holds
from hourring.towns import is_exchange, is_name, is_whole, moved, need_day, need_town, skills_of
from tests.helper import outcome, spoil

TOWN = [("ann", 0, -9, 9), ("bob", 2, -9, 9), ("cleo", -2, -9, 9)]
DAY = ([("ann", "dig", 5), ("bob", "sew", 4)], [("bob", "dig", 3), ("cleo", "dig", 4)])
JOBS = [("ann", "cleo", "dig", 2), ("ann", "bob", "dig", 3)]
PRICES = {("name", "ann"): 0, ("name", "bob"): 0, ("name", "cleo"): 0, ("skill", "dig"): 0, ("skill", "sew"): 1}
ARCS = [(0, 1, 5, 2), (1, 0, 5, -1)]
GIVERS, TAKERS = [("ann", 5), ("bob", 2)], [("cleo", 3), ("dora", 4)]
BAD = [("ann", "dig", 0), ["ann"], None]

CALLS = [
    (is_name, ["ann"]), (is_name, [["ann"]]), (is_whole, [3, 0, 5]), (is_whole, [[3], 0, 5]),
    (need_town, [TOWN]), (need_town, [TOWN + TOWN]), (need_town, [BAD]), (need_town, [{"ann": [1]}]),
    (need_day, [TOWN, DAY]), (need_day, [TOWN, (BAD, [])]), (need_day, [TOWN, [[], []]]),
    (skills_of, [DAY]), (moved, [JOBS]),
    (is_exchange, [TOWN, DAY, JOBS]), (is_exchange, [TOWN, DAY, JOBS + JOBS]), (is_exchange, [TOWN, DAY, BAD]),
    (is_exchange, [TOWN, DAY, [("bob", "cleo", "dig", 1)]]),
    (is_circling, [2, ARCS, [3, 3]]), (is_circling, [2, ARCS, [3, 2]]), (is_circling, [2, ARCS, [6, 6]]),
    (worth, [ARCS, [3, 3]]), (bound_by, [ARCS, [0, -4]]),
    (circulation, [2, ARCS]), (circulation, [3, ARCS + ARCS]), (circulation, [1, []]),
    (bound, [TOWN, DAY, PRICES]), (bound, [[], ([], []), {}]), (paired, [GIVERS, TAKERS]), (paired, [[], []]),
    (holds, [TOWN, DAY, JOBS, PRICES]), (holds, [TOWN, DAY, JOBS[:1], PRICES]), (holds, [TOWN, DAY, BAD, PRICES]),
    (best, [TOWN, DAY]), (best, [TOWN[::-1], DAY]), (best, [TOWN, ([], [])]), (best, [[], ([], [])]),
    (holds, [TOWN, DAY, JOBS, {}]), (holds, [TOWN, DAY, JOBS, {**PRICES, ("skill", "sew"): True}]),
    (holds, [TOWN, DAY, JOBS, BAD]), (holds, [BAD, DAY, JOBS, PRICES]), (holds, [TOWN, BAD, JOBS, PRICES]),
]


class Untouched(unittest.TestCase):
    def test_what_is_handed_in_is_as_it_was(self):
        for number, (call, given) in enumerate(CALLS):
            with self.subTest(call=call.__name__, number=number):
                handed = deepcopy(given)
                outcome(call, *handed)
                self.assertEqual(handed, given)

    def test_the_answer_is_the_same_each_time(self):
        for number, (call, given) in enumerate(CALLS):
            with self.subTest(call=call.__name__, number=number):
                handed = deepcopy(given)
                told = [outcome(call, *handed) for _ in range(3)]
                self.assertEqual(told, [outcome(call, *deepcopy(given))] * 3)

    def test_what_is_told_is_the_askers_own(self):
        for number, (call, given) in enumerate(CALLS):
            with self.subTest(call=call.__name__, number=number):
                handed = deepcopy(given)
                told = deepcopy(outcome(call, *handed))
                spoil(outcome(call, *handed))
                self.assertEqual(handed, given)
                self.assertEqual(outcome(call, *handed), told)

    def test_a_town_changed_later_changes_no_later_answer(self):
        town = deepcopy(TOWN)
        need_town(town)
        town.append(("ann", 0, 0, 0))
        self.assertRaises(ValueError, need_town, town)
        self.assertIs(need_town(deepcopy(TOWN)), None)
        town.pop()
        self.assertIs(need_town(town), None)

    def test_a_day_changed_later_changes_no_later_answer(self):
        day = deepcopy(DAY)
        self.assertIs(need_day(TOWN, day), None)
        told = skills_of(day)
        self.assertIs(is_exchange(TOWN, day, JOBS), True)
        day[0].clear()
        self.assertEqual(told, ["dig", "sew"])
        self.assertIs(is_exchange(TOWN, day, JOBS), False)
        self.assertIs(is_exchange(TOWN, deepcopy(DAY), JOBS), True)
        self.assertEqual(skills_of(deepcopy(DAY)), ["dig", "sew"])

    def test_jobs_changed_later_change_no_later_answer(self):
        jobs = deepcopy(JOBS)
        self.assertEqual((moved(jobs), is_exchange(TOWN, DAY, jobs)), (5, True))
        jobs.append(("ann", "bob", "dig", 1))
        self.assertEqual((moved(jobs), is_exchange(TOWN, DAY, jobs)), (6, False))
        self.assertEqual((moved(JOBS), is_exchange(TOWN, DAY, JOBS)), (5, True))

    def test_a_net_changed_later_changes_no_later_answer(self):
        arcs, flows = deepcopy(ARCS), [3, 3]
        self.assertEqual((is_circling(2, arcs, flows), worth(arcs, flows), bound_by(arcs, [0, 0])), (True, 3, 10))
        arcs[0] = (0, 1, 2, 7)
        flows[1] = 2
        self.assertEqual((is_circling(2, arcs, flows), worth(arcs, flows), bound_by(arcs, [0, 0])), (False, 19, 14))
        self.assertEqual((is_circling(2, ARCS, [3, 3]), worth(ARCS, [3, 3]), bound_by(ARCS, [0, 0])), (True, 3, 10))

    def test_what_is_told_of_a_net_does_not_change_with_it(self):
        arcs = deepcopy(ARCS)
        told = circulation(2, arcs)
        copied = deepcopy(told)
        arcs[0] = (0, 1, 2, 7)
        self.assertEqual(circulation(2, arcs)[0], [2, 2])
        self.assertEqual(told, copied)
        self.assertEqual(circulation(2, deepcopy(ARCS)), copied)
        arcs.clear()
        self.assertEqual(told, copied)

    def test_prices_changed_later_change_no_later_answer(self):
        town, day, jobs, prices = deepcopy([TOWN, DAY, JOBS, PRICES])
        day[1][1] = ("cleo", "dig", 2)
        prices[("skill", "dig")], prices[("skill", "sew")] = 1, 1
        self.assertEqual((bound(town, day, prices), holds(town, day, jobs, prices)), (5, True))
        prices[("skill", "dig")] = 2
        self.assertEqual((bound(town, day, prices), holds(town, day, jobs, prices)), (10, False))
        prices[("skill", "dig")] = 1
        self.assertEqual((bound(town, day, prices), holds(town, day, jobs, prices)), (5, True))
        jobs.pop()
        self.assertEqual((bound(town, day, prices), holds(town, day, jobs, prices)), (5, False))

    def test_givers_and_takers_changed_later_change_no_later_answer(self):
        givers, takers = deepcopy([GIVERS, TAKERS])
        told = paired(givers, takers)
        copied = deepcopy(told)
        givers[0], takers[0] = ("ann", 6), ("cleo", 4)
        self.assertEqual(paired(givers, takers), [("ann", "cleo", 4), ("ann", "dora", 2), ("bob", "dora", 2)])
        self.assertEqual(told, copied)
        self.assertEqual(paired(deepcopy(GIVERS), deepcopy(TAKERS)), copied)

    def test_a_town_and_a_day_changed_later_change_no_later_answer(self):
        town, day = deepcopy([TOWN, DAY])
        told = best(town, day)
        copied = deepcopy(told)
        day[0][0], town[1] = ("ann", "dig", 2), ("bob", 2, 1, 9)
        self.assertEqual(moved(best(town, day)[0]), 2)
        self.assertEqual(told, copied)
        town.clear()
        day[0].clear()
        day[1].clear()
        self.assertEqual(told, copied)
        self.assertEqual(best(town, day), ([], {}))
        self.assertEqual(best(deepcopy(TOWN), deepcopy(DAY)), copied)
