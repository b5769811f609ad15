"""Who of several givers works for whom of several takers: the interface of paired, and the order of point 8."""

import random
import unittest
from itertools import product

from hourring.pairing import paired
from tests.helper import GREAT, names


def rows(all_hours, first):
    """Pairs of a name and hours, the names told in no order of the alphabet."""
    return list(zip(reversed(names(len(all_hours), first)), all_hours))


def parts(draw, whole, many):
    """So many whole numbers, each 1 or more, that add up to the whole."""
    cuts = sorted(draw.sample(range(1, whole), many - 1))
    return [end - start for start, end in zip([0] + cuts, cuts + [whole])]


class Paired(unittest.TestCase):
    def told(self, givers, takers):
        """What paired tells, when it is all that the interface asks for."""
        shares = paired(givers, takers)
        self.assertIs(shares.__class__, list)
        given = {name: 0 for name, _ in givers}
        taken = {name: 0 for name, _ in takers}
        for share in shares:
            self.assertEqual([part.__class__ for part in share], [str, str, int])
            self.assertIs(share.__class__, tuple)
            self.assertGreaterEqual(share[2], 1)
            given[share[0]] += share[2]
            taken[share[1]] += share[2]
        self.assertEqual((given, taken), (dict(givers), dict(takers)))
        places = [(list(given).index(giver), list(taken).index(taker)) for giver, taker, _ in shares]
        self.assertEqual(places, sorted(set(places)))
        if givers:
            self.assertLess(len(shares), len(givers) + len(takers))
        return shares

    def test_none(self):
        self.assertEqual(self.told([], []), [])

    def test_one_with_one(self):
        for hours in [1, 2, GREAT]:
            self.assertEqual(self.told([("ann", hours)], [("bob", hours)]), [("ann", "bob", hours)])

    def test_one_giver_with_several_takers(self):
        takers = [("zoe", 1), ("bob", 5), ("cleo", 3)]
        self.assertEqual(self.told([("ann", 9)], takers), [("ann", "zoe", 1), ("ann", "bob", 5), ("ann", "cleo", 3)])

    def test_several_givers_with_one_taker(self):
        givers = [("zoe", 1), ("bob", 5), ("cleo", 3)]
        self.assertEqual(self.told(givers, [("ann", 9)]), [("zoe", "ann", 1), ("bob", "ann", 5), ("cleo", "ann", 3)])

    def test_hours_that_come_out_even_on_the_way(self):
        shares = self.told([("ann", 3), ("bob", 4)], [("cleo", 3), ("dora", 4)])
        self.assertLess(len(shares), 4)
        self.told([("ann", 3), ("bob", 4), ("cleo", 2)], [("dora", 2), ("eve", 1), ("finn", 6)])
        self.told(rows([1] * 12, "g"), rows([1] * 12, "t"))

    def test_hours_that_do_not_come_out_even_on_the_way(self):
        self.told([("ann", 3), ("bob", 4)], [("cleo", 5), ("dora", 2)])
        self.told([("ann", 5), ("bob", 2)], [("cleo", 3), ("dora", 4)])
        self.told(rows([2] * 11 + [1], "g"), rows([1] + [2] * 11, "t"))

    def test_very_great_hours_and_few(self):
        self.told([("ann", GREAT), ("bob", 1)], [("cleo", 1), ("dora", GREAT)])
        self.told([("ann", 1), ("bob", GREAT)], [("cleo", 1), ("dora", GREAT)])
        self.told([("ann", GREAT), ("bob", 1)], [("cleo", GREAT - 1), ("dora", 2)])
        self.told(rows([GREAT] * 12, "g"), rows([GREAT] * 12, "t"))
        self.told(rows([GREAT] * 12, "g"), rows([1] * 11 + [GREAT * 12 - 11], "t"))

    def test_all_of_few_hours(self):
        lists = [list(hours) for many in range(1, 4) for hours in product(range(1, 4), repeat=many)]
        for given, taken in product(lists, repeat=2):
            if sum(given) == sum(taken):
                with self.subTest(given=given, taken=taken):
                    self.told(rows(given, "g"), rows(taken, "t"))

    def test_twelve_with_twelve(self):
        draw = random.Random(81)
        for number in range(200):
            with self.subTest(number):
                whole = draw.choice([12, 13, 30, 1000])
                self.told(rows(parts(draw, whole, 12), "g"), rows(parts(draw, whole, 12), "t"))

    def test_somewhat_more_than_twelve(self):
        draw = random.Random(82)
        self.told(rows(parts(draw, 900, 30), "g"), rows(parts(draw, 900, 25), "t"))
