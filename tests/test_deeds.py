"""Deeds and their forms: point 9, and of point 10 BadDeed."""

import unittest
from itertools import product

from hourring.errors import BadDeed, RingError
from hourring.ledger import Ledger
from tests.helper import GREAT, OTHER_SIGNS, full_ledger, ledger_of, odd_things, outcome, state

# One deed of each kind, and where its names and its numbers stand.
DEEDS = [("join", "dora", -5, 5), ("bounds", "ann", -8, 8), ("leave", "cleo"), ("gift", "ann", "bob", 2),
         ("offer", "ann", "sew", 3), ("wish", "bob", "cook", 3), ("close",)]
NAMES = [(0, 1), (1, 1), (2, 1), (3, 1), (3, 2), (4, 1), (4, 2), (5, 1), (5, 2)]
NUMBERS = [(0, 2), (0, 3), (1, 2), (1, 3), (3, 3), (4, 3), (5, 3)]

BAD_NAMES = ["", "abcdefghi", "Ann", "aNn", "anN", "ann1", "1ann", "an1n", " ann", "ann ", "a nn", "-ann", "ann-",
             "ann_", "_ann", "ann\n", "\nann", "ann\t", "an.n", "`", "{", "A", "Z", "0"]
NO_NUMBERS = [True, False, "0", "1", "", None, (1,), [1], {1: 1}, {1}, b"1"]


def small_ledger():
    return ledger_of(
        ("join", "ann", -9, 9), ("join", "bob", -9, 9), ("join", "cleo", -9, 9), ("gift", "ann", "bob", 4),
        ("offer", "ann", "dig", 3), ("wish", "bob", "dig", 2),
    )


def changed(deed, at, part):
    return deed[:at] + (part,) + deed[at + 1:]


class Forms(unittest.TestCase):
    def good(self, deed, ledger=None):
        ledger = ledger or small_ledger()
        book = ledger.book()
        ledger.do(deed)
        self.assertEqual(ledger.book(), book + [deed])

    def bad(self, deed):
        # What is no deed is refused before anything else is looked at, whatever the ledger is.
        for ledger in [self.some, self.full, self.empty]:
            before = state(ledger)
            self.assertIs(outcome(ledger.do, deed), BadDeed)
            self.assertEqual(state(ledger), before)

    def setUp(self):
        self.some, self.full, self.empty = small_ledger(), full_ledger(40), Ledger()

    def test_each_deed(self):
        for deed in DEEDS:
            with self.subTest(deed):
                self.good(deed)

    def test_the_refusal_is_a_ring_error(self):
        self.assertRaises(RingError, Ledger().do, ())
        self.assertRaises(BadDeed, Ledger().do, None)

    def test_any_thing_at_all(self):
        for number, thing in enumerate(odd_things()):
            with self.subTest(number):
                self.bad(thing)
                self.bad((thing,))
                self.bad((thing,) * 2)
                self.bad((thing,) * 4)
                self.bad(("close", thing))
                self.bad((thing, "close"))

    def test_any_thing_at_each_place_of_each_deed(self):
        for deed in DEEDS:
            for at in range(len(deed)):
                for number, thing in enumerate(odd_things()):
                    if at == 0 or thing.__class__ is not int:
                        with self.subTest(deed=deed, at=at, number=number):
                            self.bad(changed(deed, at, thing))

    def test_another_length(self):
        for deed in DEEDS:
            with self.subTest(deed):
                for length in range(len(deed)):
                    self.bad(deed[:length])
                for part in ["ann", 1, 0, None, deed[-1], ()]:
                    self.bad(deed + (part,))
                    self.bad((part,) + deed)
                self.bad(deed + deed)
                self.bad((deed,))

    def test_parts_in_another_order(self):
        for deed in DEEDS[:-1]:
            with self.subTest(deed):
                self.bad(tuple(reversed(deed)))
                self.bad(deed[1:] + deed[:1])
        self.bad(("join", -5, "dora", 5))
        self.bad(("join", -5, 5, "dora"))
        self.bad(("gift", "ann", 2, "bob"))
        self.bad(("offer", "ann", 3, "sew"))

    def test_another_word(self):
        for deed in DEEDS:
            words = ["", "Join", "JOIN", "joins", "joi", " join", "join ", "give", "undo", "book", "paper", "purse",
                     deed[0].upper(), deed[0].title(), deed[0] + " ", " " + deed[0], deed[0] + "\n", deed[0][:-1],
                     deed[0].encode(), (deed[0],), [deed[0]], 0, True, None]
            for word in words:
                with self.subTest(deed=deed, word=word):
                    self.bad(changed(deed, 0, word))

    def test_the_word_of_one_deed_and_the_parts_of_another(self):
        groups = [["join", "bounds"], ["leave"], ["gift", "offer", "wish"], ["close"]]
        for group, other in product(groups, repeat=2):
            if group != other:
                for deed, word in product([deed for deed in DEEDS if deed[0] in group], other):
                    with self.subTest(deed=deed, word=word):
                        self.bad(changed(deed, 0, word))

    def test_a_list_or_another_thing_for_the_tuple(self):
        for deed in DEEDS:
            for thing in [list(deed), " ".join([str(part) for part in deed]), {deed: 1}, dict.fromkeys(deed),
                          set(deed), frozenset(deed), [deed], (list(deed),), iter(deed)]:
                with self.subTest(deed=deed, kind=thing.__class__):
                    self.bad(thing)

    def test_names_of_one_and_of_eight_letters(self):
        for name in ["a", "z", "ab", "abcdefg", "abcdefgh", "zzzzzzzz", "join"]:
            with self.subTest(name):
                ledger = ledger_of(("join", name, -9, 9), ("join", "other", -9, 9))
                for deed in [("bounds", name, -8, 8), ("gift", name, "other", 1), ("gift", "other", name, 1),
                             ("offer", name, "dig", 1), ("offer", name, "dig", 0), ("wish", name, "sew", 1),
                             ("wish", name, "sew", 0), ("offer", "other", name, 1), ("offer", "other", name, 0),
                             ("wish", "other", name, 1), ("wish", "other", name, 0), ("leave", name)]:
                    self.good(deed, ledger)

    def test_names_that_are_none(self):
        for number, at in NAMES:
            for name in BAD_NAMES + OTHER_SIGNS + ["an" + sign for sign in OTHER_SIGNS]:
                with self.subTest(number=number, at=at, name=name):
                    self.bad(changed(DEEDS[number], at, name))

    def test_other_kinds_for_a_name(self):
        for number, at in NAMES:
            for name in [None, True, 0, 1, ("ann",), ["ann"], {"ann": 1}, {"ann"}, b"ann", len]:
                with self.subTest(number=number, at=at, name=name):
                    self.bad(changed(DEEDS[number], at, name))

    def test_other_kinds_for_a_number(self):
        for number, at in NUMBERS:
            for thing in NO_NUMBERS + [str(DEEDS[number][at])]:
                with self.subTest(number=number, at=at, thing=thing):
                    self.bad(changed(DEEDS[number], at, thing))

    def test_numbers_far_beyond(self):
        for number, at in NUMBERS:
            for thing in [GREAT + 1, -GREAT - 1, 10 ** 5000, -10 ** 5000]:
                with self.subTest(number=number, at=at, length=thing.bit_length()):
                    self.bad(changed(DEEDS[number], at, thing))

    def test_bounds_of_a_join(self):
        for floor, ceiling in product([-GREAT, -GREAT + 1, -1, 0], [0, 1, GREAT - 1, GREAT]):
            with self.subTest(floor=floor, ceiling=ceiling):
                self.good(("join", "dora", floor, ceiling))
        for floor, ceiling in [(1, 1), (1, 5), (-1, -1), (-5, -1), (5, -5), (1, 0), (0, -1), (1, -1), (GREAT, GREAT),
                               (-GREAT, -GREAT), (-GREAT - 1, 0), (0, GREAT + 1), (-GREAT - 1, GREAT + 1),
                               (GREAT + 1, 0), (0, -GREAT - 1)]:
            with self.subTest(floor=floor, ceiling=ceiling):
                self.bad(("join", "dora", floor, ceiling))
                self.bad(("join", "ann", floor, ceiling))

    def test_bounds_of_bounds(self):
        ledger = ledger_of(("join", "ann", -GREAT, GREAT), ("join", "bob", -GREAT, GREAT))
        for floor, ceiling in product([-GREAT, -GREAT + 1, -1, 0], [0, 1, GREAT - 1, GREAT]):
            with self.subTest(floor=floor, ceiling=ceiling):
                self.good(("bounds", "ann", floor, ceiling), ledger)
        ledger.do(("bounds", "ann", -GREAT, GREAT))
        ledger.do(("gift", "ann", "bob", GREAT))
        self.good(("bounds", "ann", -GREAT, -GREAT), ledger)
        self.good(("bounds", "bob", GREAT, GREAT), ledger)
        self.good(("bounds", "ann", -GREAT, -1), ledger)
        self.good(("bounds", "bob", 1, GREAT), ledger)
        for floor, ceiling in [(1, 0), (0, -1), (5, -5), (GREAT, GREAT - 1), (-GREAT + 1, -GREAT), (-GREAT - 1, 0),
                               (0, GREAT + 1), (GREAT + 1, GREAT + 1), (-GREAT - 1, -GREAT - 1)]:
            with self.subTest(floor=floor, ceiling=ceiling):
                self.bad(("bounds", "ann", floor, ceiling))
                self.bad(("bounds", "aa", floor, ceiling))

    def test_hours_of_a_gift(self):
        for hours in [1, 2, GREAT - 1, GREAT]:
            with self.subTest(hours):
                ledger = ledger_of(("join", "ann", -GREAT, GREAT), ("join", "bob", -GREAT, GREAT))
                self.good(("gift", "ann", "bob", hours), ledger)
        for hours in [0, -1, -GREAT, GREAT + 1]:
            with self.subTest(hours):
                self.bad(("gift", "ann", "bob", hours))
                self.bad(("gift", "ann", "ann", hours))
                self.bad(("gift", "zed", "bob", hours))

    def test_hours_of_an_offer_and_of_a_wish(self):
        for word, hours in product(["offer", "wish"], [0, 1, 2, GREAT - 1, GREAT]):
            with self.subTest(word=word, hours=hours):
                self.good((word, "cleo", "dig", hours))
        for word, hours in product(["offer", "wish"], [-1, -2, -GREAT, GREAT + 1]):
            with self.subTest(word=word, hours=hours):
                for name in ["ann", "bob", "aa", "zed"]:
                    self.bad((word, name, "dig", hours))

    def test_a_deed_wrong_in_several_parts(self):
        for deed in [("join", "Ann", 1, -1), ("gift", "Ann", "", 0), ("offer", "", "", -1), ("wish", "ann", "Dig", "1"),
                     ("bounds", "zed", 3, 1), ("leave", "Zed"), ("join", "ann", True, 5), ("gift", "zed", "Zed", 1)]:
            with self.subTest(deed):
                self.bad(deed)
