"""A ledger's deeds and their refusals: points 9 and 10."""

from itertools import product

from hourring import errors
from hourring.errors import BadDeed, Both, NoNeighbour, OutOfBounds, TooMany, Twice
from hourring.ledger import Ledger
from tests.helper import GREAT, LedgerCase, full_ledger, ledger_of, names, spread, state

JOINS = [("join", "ann", -9, 9), ("join", "bob", -5, 5), ("join", "cleo", 0, 0)]
OTHER = {"offer": "wish", "wish": "offer"}


class Neighbours(LedgerCase):
    def test_at_first_there_is_nothing(self):
        ledger = Ledger()
        self.is_now(ledger, [])
        self.assertEqual(ledger.book(), [])
        self.assertEqual((ledger.town().__class__, ledger.day().__class__, ledger.book().__class__),
                         (list, tuple, list))

    def test_each_ledger_is_its_own(self):
        one, other = Ledger(), Ledger()
        one.do(("join", "ann", -9, 9))
        self.assertEqual(state(other), ([], ([], []), []))

    def test_neighbours_stand_as_they_joined(self):
        ledger = Ledger()
        self.done(ledger, *JOINS[::-1])
        self.is_now(ledger, [("cleo", 0, 0, 0), ("bob", 0, -5, 5), ("ann", 0, -9, 9)])

    def test_one_who_joins_again_stands_last(self):
        ledger = ledger_of(*JOINS)
        self.done(ledger, ("leave", "ann"), ("join", "ann", -1, 1))
        self.is_now(ledger, [("bob", 0, -5, 5), ("cleo", 0, 0, 0), ("ann", 0, -1, 1)])

    def test_twice(self):
        for name in ["ann", "bob", "cleo"]:
            self.refused(ledger_of(*JOINS), ("join", name, -1, 1), Twice, name)
        self.refused(ledger_of(JOINS[0]), JOINS[0], Twice, "ann")

    def test_twelve_neighbours_and_a_thirteenth(self):
        ledger = Ledger()
        self.done(ledger, *[("join", name, -9, 9) for name in names(12)])
        self.refused(ledger, ("join", "zed", -9, 9), TooMany)
        for name in names(12):
            self.refused(ledger, ("join", name, -9, 9), Twice, name)
        self.done(ledger, ("leave", "ae"), ("join", "zed", -9, 9))
        self.refused(ledger, ("join", "ae", -9, 9), TooMany)

    def test_bounds_change_nothing_but_bounds(self):
        ledger = ledger_of(*JOINS, ("gift", "ann", "bob", 3))
        self.done(ledger, ("bounds", "bob", 1, 4))
        self.is_now(ledger, [("ann", -3, -9, 9), ("bob", 3, 1, 4), ("cleo", 0, 0, 0)])
        self.done(ledger, ("bounds", "ann", -3, -3), ("bounds", "cleo", -GREAT, GREAT), ("bounds", "bob", 3, 3))
        self.is_now(ledger, [("ann", -3, -3, -3), ("bob", 3, 3, 3), ("cleo", 0, -GREAT, GREAT)])

    def test_bounds_that_the_purse_does_not_lie_in(self):
        ledger = ledger_of(*JOINS, ("gift", "ann", "bob", 3))
        for floor, ceiling in [(4, 5), (-5, 2), (4, 4), (2, 2), (-9, -9), (GREAT, GREAT)]:
            with self.subTest(floor=floor, ceiling=ceiling):
                self.refused(ledger, ("bounds", "bob", floor, ceiling), OutOfBounds, "bob")
        for floor, ceiling in [(-2, 9), (-9, -4), (0, 0), (-2, -2), (-4, -4)]:
            with self.subTest(floor=floor, ceiling=ceiling):
                self.refused(ledger, ("bounds", "ann", floor, ceiling), OutOfBounds, "ann")
        self.refused(ledger, ("bounds", "cleo", 1, 9), OutOfBounds, "cleo")
        self.refused(ledger, ("bounds", "cleo", -9, -1), OutOfBounds, "cleo")

    def test_new_bounds_count_from_now_on(self):
        ledger = ledger_of(*JOINS, ("bounds", "cleo", -2, 1))
        self.refused(ledger, ("gift", "cleo", "ann", 3), OutOfBounds, "cleo")
        self.refused(ledger, ("gift", "ann", "cleo", 2), OutOfBounds, "cleo")
        self.done(ledger, ("gift", "cleo", "ann", 2), ("gift", "ann", "cleo", 3))

    def test_leaving(self):
        ledger = ledger_of(*JOINS)
        self.done(ledger, ("leave", "bob"))
        self.is_now(ledger, [("ann", 0, -9, 9), ("cleo", 0, 0, 0)])
        self.done(ledger, ("leave", "cleo"), ("leave", "ann"))
        self.is_now(ledger, [])

    def test_leaving_with_a_purse(self):
        ledger = ledger_of(*JOINS, ("gift", "ann", "bob", 1))
        self.refused(ledger, ("leave", "ann"), OutOfBounds, "ann")
        self.refused(ledger, ("leave", "bob"), OutOfBounds, "bob")
        self.done(ledger, ("gift", "bob", "ann", 1), ("leave", "bob"), ("leave", "ann"))

    def test_leaving_with_something_to_do(self):
        for word in ["offer", "wish"]:
            ledger = ledger_of(*JOINS, (word, "cleo", "dig", 1), (word, "cleo", "sew", 1))
            self.done(ledger, (OTHER[word], "bob", "ann", 1))
            self.refused(ledger, ("leave", "cleo"), OutOfBounds, "cleo")
            self.refused(ledger, ("leave", "bob"), OutOfBounds, "bob")
            self.done(ledger, (word, "cleo", "dig", 0))
            self.refused(ledger, ("leave", "cleo"), OutOfBounds, "cleo")
            self.done(ledger, (word, "cleo", "sew", 0), ("leave", "cleo"), ("leave", "ann"))

    def test_a_gift(self):
        ledger = ledger_of(*JOINS[:2])
        self.done(ledger, ("gift", "ann", "bob", 3))
        self.is_now(ledger, [("ann", -3, -9, 9), ("bob", 3, -5, 5)])
        self.done(ledger, ("gift", "bob", "ann", 8))
        self.is_now(ledger, [("ann", 5, -9, 9), ("bob", -5, -5, 5)])
        self.done(ledger, ("gift", "ann", "bob", 5))
        self.is_now(ledger, [("ann", 0, -9, 9), ("bob", 0, -5, 5)])

    def test_gifts_of_the_greatest_size(self):
        ledger = ledger_of(("join", "ann", -GREAT, GREAT), ("join", "bob", -GREAT, GREAT))
        self.done(ledger, ("gift", "ann", "bob", GREAT))
        self.refused(ledger, ("gift", "ann", "bob", 1), OutOfBounds, "ann")
        self.done(ledger, ("gift", "bob", "ann", GREAT), ("gift", "bob", "ann", GREAT))
        self.is_now(ledger, [("ann", GREAT, -GREAT, GREAT), ("bob", -GREAT, -GREAT, GREAT)])

    def test_a_gift_to_oneself(self):
        ledger = ledger_of(*JOINS)
        for name, hours in product(["ann", "bob", "cleo"], [1, 9, 10, GREAT]):
            with self.subTest(name=name, hours=hours):
                self.refused(ledger, ("gift", name, name, hours), OutOfBounds, name)

    def test_a_gift_by_the_givers_purse(self):
        ledger = ledger_of(*JOINS, ("bounds", "cleo", -9, 99))
        self.refused(ledger, ("gift", "ann", "cleo", 10), OutOfBounds, "ann")
        self.refused(ledger, ("gift", "bob", "cleo", 6), OutOfBounds, "bob")
        self.done(ledger, ("gift", "ann", "cleo", 9), ("gift", "bob", "cleo", 5))
        self.refused(ledger, ("gift", "ann", "cleo", 1), OutOfBounds, "ann")

    def test_a_gift_by_the_takers_purse(self):
        ledger = ledger_of(*JOINS, ("bounds", "cleo", -99, 9))
        self.refused(ledger, ("gift", "cleo", "ann", 10), OutOfBounds, "ann")
        self.refused(ledger, ("gift", "cleo", "bob", 6), OutOfBounds, "bob")
        self.done(ledger, ("gift", "cleo", "ann", 9), ("gift", "cleo", "bob", 5))
        self.refused(ledger, ("gift", "cleo", "ann", 1), OutOfBounds, "ann")

    def test_a_gift_by_both_purses(self):
        ledger = ledger_of(*JOINS)
        self.refused(ledger, ("gift", "ann", "bob", 10), OutOfBounds, "ann")
        self.refused(ledger, ("gift", "bob", "ann", 10), OutOfBounds, "bob")
        self.refused(ledger, ("gift", "bob", "cleo", 6), OutOfBounds, "bob")
        self.refused(ledger, ("gift", "cleo", "ann", 1), OutOfBounds, "cleo")
        self.refused(ledger, ("gift", "ann", "cleo", 1), OutOfBounds, "cleo")

    def test_no_neighbour(self):
        for ledger in [Ledger(), full_ledger(40)]:
            for deed in [("bounds", "zed", -1, 1), ("bounds", "zed", 5, 6), ("leave", "zed"), ("gift", "zed", "yon", 1),
                         ("gift", "zed", "yon", GREAT), ("gift", "zed", "zed", 1), ("offer", "zed", "dig", 1),
                         ("offer", "zed", "dig", 0), ("wish", "zed", "dig", 1), ("wish", "zed", "dig", 0)]:
                with self.subTest(deed):
                    self.refused(ledger, deed, NoNeighbour, "zed")

    def test_the_first_name_that_is_no_neighbour(self):
        ledger = ledger_of(*JOINS)
        for hours in [1, GREAT]:
            self.refused(ledger, ("gift", "ann", "zed", hours), NoNeighbour, "zed")
            self.refused(ledger, ("gift", "zed", "ann", hours), NoNeighbour, "zed")
            self.refused(ledger, ("gift", "zed", "yon", hours), NoNeighbour, "zed")
            self.refused(ledger, ("gift", "yon", "zed", hours), NoNeighbour, "yon")

    def test_one_who_left_is_no_neighbour(self):
        ledger = ledger_of(*JOINS, ("leave", "bob"))
        self.refused(ledger, ("leave", "bob"), NoNeighbour, "bob")
        self.refused(ledger, ("gift", "ann", "bob", 1), NoNeighbour, "bob")

    def test_a_skill_is_no_neighbour(self):
        ledger = ledger_of(*JOINS, ("offer", "ann", "dig", 1))
        self.refused(ledger, ("leave", "dig"), NoNeighbour, "dig")
        self.done(ledger, ("offer", "ann", "ann", 2), ("wish", "bob", "ann", 2), ("join", "dig", 0, 0))


class OffersAndWishes(LedgerCase):
    def test_they_stand_as_they_were_first_made(self):
        for word in ["offer", "wish"]:
            ledger = ledger_of(*JOINS)
            rows = [("bob", "dig", 2), ("ann", "sew", 3), ("ann", "dig", 1), ("cleo", "cook", GREAT)]
            self.done(ledger, *[(word,) + row for row in rows])
            self.assertEqual(self.side(ledger, word), rows)
            self.assertEqual([row[1:] for row in ledger.town()], [(0, -9, 9), (0, -5, 5), (0, 0, 0)])

    def test_offers_and_wishes_beside_one_another(self):
        ledger = ledger_of(*JOINS)
        self.done(ledger, ("wish", "ann", "dig", 1), ("offer", "bob", "dig", 2), ("offer", "ann", "sew", 3))
        self.assertEqual(ledger.day(), ([("bob", "dig", 2), ("ann", "sew", 3)], [("ann", "dig", 1)]))

    def test_a_change_stays_at_its_place(self):
        for word in ["offer", "wish"]:
            ledger = ledger_of(*JOINS, (word, "ann", "dig", 1), (word, "bob", "dig", 2), (word, "ann", "sew", 3))
            self.done(ledger, (word, "ann", "dig", 9))
            self.assertEqual(self.side(ledger, word), [("ann", "dig", 9), ("bob", "dig", 2), ("ann", "sew", 3)])
            self.done(ledger, (word, "bob", "dig", 1), (word, "ann", "sew", 3), (word, "ann", "dig", GREAT))
            self.assertEqual(self.side(ledger, word), [("ann", "dig", GREAT), ("bob", "dig", 1), ("ann", "sew", 3)])

    def test_taken_back_and_made_again_it_stands_last(self):
        for word in ["offer", "wish"]:
            ledger = ledger_of(*JOINS, (word, "ann", "dig", 1), (word, "bob", "dig", 2), (word, "ann", "sew", 3))
            self.done(ledger, (word, "ann", "dig", 0))
            self.assertEqual(self.side(ledger, word), [("bob", "dig", 2), ("ann", "sew", 3)])
            self.done(ledger, (word, "ann", "dig", 1))
            self.assertEqual(self.side(ledger, word), [("bob", "dig", 2), ("ann", "sew", 3), ("ann", "dig", 1)])

    def test_no_hours_where_there_is_nothing(self):
        for word in ["offer", "wish"]:
            ledger = ledger_of(*JOINS, (word, "ann", "dig", 1))
            before = ledger.town(), ledger.day()
            self.done(ledger, (word, "bob", "dig", 0), (word, "ann", "sew", 0))
            self.assertEqual((ledger.town(), ledger.day()), before)
            self.done(ledger, (word, "ann", "dig", 0), (word, "ann", "dig", 0))
            self.assertEqual(self.side(ledger, word), [])
            self.assertEqual(len(ledger.book()), 8)

    def test_both(self):
        for word in ["offer", "wish"]:
            ledger = ledger_of(*JOINS, (word, "ann", "dig", 3), (word, "bob", "sew", 3))
            for hours in [1, 2, 3, 4, GREAT]:
                with self.subTest(word=word, hours=hours):
                    self.refused(ledger, (OTHER[word], "ann", "dig", hours), Both, "ann")
                    self.refused(ledger, (OTHER[word], "bob", "sew", hours), Both, "bob")
            self.done(ledger, (OTHER[word], "bob", "dig", 1), (OTHER[word], "ann", "sew", 1))
            self.refused(ledger, (word, "bob", "dig", 1), Both, "bob")

    def test_no_hours_of_a_skill_of_the_other_side(self):
        for word in ["offer", "wish"]:
            ledger = ledger_of(*JOINS, (word, "ann", "dig", 3))
            self.done(ledger, (OTHER[word], "ann", "dig", 0))
            self.assertEqual(self.side(ledger, word), [("ann", "dig", 3)])
            self.done(ledger, (word, "ann", "dig", 0), (OTHER[word], "ann", "dig", 2))
            self.assertEqual(self.side(ledger, OTHER[word]), [("ann", "dig", 2)])

    def test_forty_and_a_forty_first(self):
        for word, last in product(["offer", "wish"], repeat=2):
            ledger = full_ledger(0)
            self.done(ledger, *[(word,) + row for row in spread(39)])
            more = spread(42)
            self.done(ledger, (last,) + more[39])
            self.assertEqual([len(side) for side in ledger.day()].count(40), int(word == last))
            for row in more[40:]:
                self.refused(ledger, ("offer",) + row, TooMany)
                self.refused(ledger, ("wish",) + row, TooMany)

    def test_forty_and_what_is_not_new(self):
        ledger = full_ledger(40)
        row = spread(41)[40]
        self.done(ledger, ("offer", "aa", "saa", 5), ("offer",) + spread(40)[39][:2] + (GREAT,))
        self.done(ledger, ("offer",) + row[:2] + (0,), ("wish",) + row[:2] + (0,), ("wish", "aa", "saa", 0))
        self.refused(ledger, ("wish", "aa", "saa", 1), Both, "aa")
        self.refused(ledger, ("offer",) + row, TooMany)
        self.done(ledger, ("offer", "aa", "saa", 0), ("wish",) + row)
        self.refused(ledger, ("offer", "aa", "saa", 1), TooMany)
        self.assertEqual([len(side) for side in ledger.day()], [39, 1])

    def test_twelve_skills_and_a_thirteenth(self):
        for cut in [0, 1, 6, 11, 12]:
            ledger = ledger_of(*JOINS)
            skills = names(12, "s")
            self.done(ledger, *[("offer", "ann", skill, 1) for skill in skills[:cut]])
            self.done(ledger, *[("wish", "ann", skill, 1) for skill in skills[cut:]])
            for word, name in product(["offer", "wish"], ["ann", "bob"]):
                with self.subTest(cut=cut, word=word, name=name):
                    self.refused(ledger, (word, name, "more", 1), TooMany)
                    self.done(ledger, (word, name, "more", 0))
            # Others may still have the same twelve, on either side.
            self.done(ledger, *[("offer", "bob", skill, 1) for skill in skills[::2]])
            self.done(ledger, *[("wish", "bob", skill, 1) for skill in skills[1::2]])
            self.done(ledger, *[("offer", "ann", skill, 2) for skill in skills[:cut]])
            self.done(ledger, *[("wish", "ann", skill, 2) for skill in skills[cut:]])

    def test_a_skill_that_nobody_has_any_more_makes_room(self):
        skills = names(12, "s")
        ledger = ledger_of(*JOINS, *[("offer", "ann", skill, 1) for skill in skills], ("wish", "bob", "saa", 1))
        self.done(ledger, ("offer", "ann", "saa", 0))
        self.refused(ledger, ("offer", "ann", "more", 1), TooMany)
        self.done(ledger, ("wish", "bob", "saa", 0), ("offer", "ann", "more", 1))
        self.refused(ledger, ("offer", "ann", "saa", 1), TooMany)

    def test_forty_with_twelve_skills_among_them(self):
        skills = names(12, "s")
        rows = [(name, skill, 1) for name in names(3) for skill in skills] + [("ad", skill, 1) for skill in skills[:4]]
        ledger = full_ledger(0)
        self.done(ledger, *[("offer",) + row for row in rows])
        for word, skill in product(["offer", "wish"], [skills[0], skills[11], "more"]):
            with self.subTest(word=word, skill=skill):
                self.refused(ledger, (word, "al", skill, 1), TooMany)


class Orders(LedgerCase):
    """Deeds that are wrong twice over: the word that is due first."""

    def test_bad_deed_ahead_of_all(self):
        ledger = full_ledger(40)
        for deed in [("join", "aa", 1, 5), ("join", "zed", 1, 5), ("join", "aa", -1, GREAT + 1),
                     ("bounds", "zed", 2, 1), ("bounds", "aa", 9, 5), ("gift", "zed", "zed", 0),
                     ("gift", "aa", "aa", 0), ("gift", "aa", "aa", GREAT + 1),
                     ("offer", "zed", "dig", -1), ("wish", "aa", "saa", -1), ("wish", "aa", "saa", GREAT + 1),
                     ("leave", "Zed"), ("offer", "zed", "Dig", 1), ("gift", "zed", "Yon", 1), ("close", 1)]:
            with self.subTest(deed):
                self.refused(ledger, deed, BadDeed)

    def test_twice_ahead_of_too_many(self):
        self.refused(full_ledger(0), ("join", "ab", 0, 0), Twice, "ab")

    def test_no_neighbour_ahead_of_out_of_bounds(self):
        ledger = ledger_of(*JOINS)
        self.refused(ledger, ("gift", "ann", "zed", GREAT), NoNeighbour, "zed")
        self.refused(ledger, ("gift", "zed", "zed", GREAT), NoNeighbour, "zed")
        self.refused(ledger, ("bounds", "zed", 1, 1), NoNeighbour, "zed")

    def test_no_neighbour_ahead_of_too_many(self):
        ledger = full_ledger(40)
        self.refused(ledger, ("offer", "zed", "more", 1), NoNeighbour, "zed")
        self.refused(ledger, ("wish", "zed", "saa", 1), NoNeighbour, "zed")

    def test_oneself_ahead_of_the_purses(self):
        ledger = ledger_of(*JOINS)
        self.refused(ledger, ("gift", "cleo", "cleo", 1), OutOfBounds, "cleo")

    def test_both_ahead_of_too_many(self):
        ledger = full_ledger(40)
        for name, skill, _ in spread(40):
            self.refused(ledger, ("wish", name, skill, 1), Both, name)

    def test_the_errors_that_have_a_name_are_those_of_the_file_of_errors(self):
        ledger = ledger_of(*JOINS, ("offer", "ann", "dig", 1))
        for deed, kind in [(("join", "ann", 0, 0), "Twice"), (("leave", "zed"), "NoNeighbour"),
                           (("leave", "ann"), "OutOfBounds"), (("wish", "ann", "dig", 1), "Both")]:
            with self.subTest(deed):
                self.refused(ledger, deed, getattr(errors, kind), deed[1])
