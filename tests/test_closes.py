"""Closes, what is taken back, books and what is played of them: points 8, 9 and 11."""

import random
from itertools import product

from hourring.errors import NoDeed, OutOfBounds, RingError
from hourring.exchanges import best
from hourring.ledger import Ledger, played
from hourring.papers import holds
from hourring.towns import moved, need_day, need_town
from tests.helper import GREAT, LedgerCase, full_ledger, ledger_of, names, odd_things, outcome, spoil, state

JOINS = [("join", "ann", -9, 9), ("join", "bob", -5, 5), ("join", "cleo", -9, 9)]
CLOSE = ("close",)
# Ann digs five hours for bob, bob sews two for cleo, and an hour of cooking is left undone.
DAY = [("offer", "ann", "dig", 7), ("wish", "cleo", "cook", 1), ("offer", "bob", "sew", 2), ("wish", "bob", "dig", 5),
       ("wish", "cleo", "sew", 3)]


def drawn_deed(draw):
    """A deed that is as likely done as refused."""
    one, other, skill = draw.choice(names(4)), draw.choice(names(4)), draw.choice(names(3, "s"))
    hours = draw.randrange(7)
    return draw.choice([
        ("join", one, -draw.randrange(9), draw.randrange(9)), ("bounds", one, -draw.randrange(9), draw.randrange(9)),
        ("leave", one), ("gift", one, other, hours), ("offer", one, skill, hours), ("wish", one, skill, hours),
        ("offer", one, skill, hours), ("wish", one, skill, hours), CLOSE, ("close", one), ["leave", one],
    ])


class Closes(LedgerCase):
    def closed(self, ledger):
        """What a close tells, when all is behind it as it must be by the jobs."""
        town, day, book = state(ledger)
        told = ledger.do(CLOSE)
        jobs, prices = told
        self.assertEqual((told.__class__, jobs.__class__, prices.__class__), (tuple, list, dict))
        self.assertIs(holds(town, day, jobs, prices), True)
        self.assertEqual(told, best(town, day))
        gain = {row[0]: 0 for row in town}
        given, taken = ({row[:2]: 0 for row in side} for side in day)
        for giver, taker, skill, hours in jobs:
            gain[giver] += hours
            gain[taker] -= hours
            given[giver, skill] += hours
            taken[taker, skill] += hours
        self.assertEqual(ledger.town(), [(row[0], row[1] + gain[row[0]]) + row[2:] for row in town])
        for side, done, now in zip(day, (given, taken), ledger.day()):
            left = [row[:2] + (row[2] - done[row[:2]],) for row in side]
            self.assertEqual(now, [row for row in left if row[2]])
        self.assertEqual(ledger.book(), book + [CLOSE])
        self.assertEqual(sum(row[1] for row in ledger.town()), 0)
        return jobs

    def test_a_close_of_an_empty_ledger(self):
        self.assertEqual(Ledger().do(CLOSE), ([], {}))

    def test_closes_with_nothing_open(self):
        ledger = ledger_of(*JOINS)
        for _ in range(3):
            self.assertEqual(self.closed(ledger), [])

    def test_closes_with_nothing_to_do(self):
        ledger = ledger_of(*JOINS, ("offer", "ann", "dig", 5), ("wish", "bob", "sew", 5))
        self.assertEqual(self.closed(ledger), [])
        self.assertEqual(self.closed(ledger), [])
        self.assertEqual(ledger.day(), ([("ann", "dig", 5)], [("bob", "sew", 5)]))

    def test_purses_offers_and_wishes_behind_a_close(self):
        ledger = ledger_of(*JOINS, *DAY)
        self.assertEqual(self.closed(ledger), [("ann", "bob", "dig", 5), ("bob", "cleo", "sew", 2)])
        self.assertEqual(ledger.town(), [("ann", 5, -9, 9), ("bob", -3, -5, 5), ("cleo", -2, -9, 9)])
        self.assertEqual(ledger.day(), ([("ann", "dig", 2)], [("cleo", "cook", 1), ("cleo", "sew", 1)]))

    def test_one_close_behind_another(self):
        ledger = ledger_of(*JOINS, *DAY)
        self.assertEqual(moved(self.closed(ledger)), 7)
        self.assertEqual(self.closed(ledger), [])
        self.done(ledger, ("wish", "cleo", "dig", 9), ("offer", "bob", "cook", 4))
        self.assertEqual(self.closed(ledger), [("ann", "cleo", "dig", 2), ("bob", "cleo", "cook", 1)])
        self.assertEqual(ledger.day(), ([("bob", "cook", 3)], [("cleo", "sew", 1), ("cleo", "dig", 7)]))
        self.assertEqual(self.closed(ledger), [])

    def test_a_close_stops_at_the_bounds_and_goes_on_with_new_ones(self):
        ledger = ledger_of(*JOINS, ("offer", "ann", "dig", 20), ("wish", "bob", "dig", 20))
        self.assertEqual(self.closed(ledger), [("ann", "bob", "dig", 5)])
        self.assertEqual(self.closed(ledger), [])
        self.done(ledger, ("bounds", "bob", -8, 0))
        self.assertEqual(self.closed(ledger), [("ann", "bob", "dig", 3)])
        self.done(ledger, ("gift", "cleo", "bob", 6))
        self.assertEqual(self.closed(ledger), [("ann", "bob", "dig", 1)])
        self.assertEqual(ledger.town(), [("ann", 9, -9, 9), ("bob", -3, -8, 0), ("cleo", -6, -9, 9)])

    def test_what_stays_open_keeps_its_place(self):
        ledger = ledger_of(*JOINS, ("offer", "ann", "dig", 9), ("offer", "bob", "cook", 1), ("offer", "ann", "sew", 2),
                           ("wish", "cleo", "sew", 2), ("wish", "cleo", "dig", 3))
        self.closed(ledger)
        self.assertEqual(ledger.day(), ([("ann", "dig", 6), ("bob", "cook", 1)], []))
        self.done(ledger, ("offer", "ann", "sew", 2), ("offer", "ann", "dig", 1))
        self.assertEqual(ledger.day()[0], [("ann", "dig", 1), ("bob", "cook", 1), ("ann", "sew", 2)])

    def test_what_is_done_may_be_offered_or_wished_for_anew(self):
        ledger = ledger_of(*JOINS, ("offer", "ann", "dig", 4), ("wish", "bob", "dig", 4))
        self.closed(ledger)
        self.refused(ledger, ("leave", "ann"), OutOfBounds, "ann")
        self.done(ledger, ("wish", "ann", "dig", 4), ("offer", "bob", "dig", 4))
        self.assertEqual(self.closed(ledger), [("bob", "ann", "dig", 4)])
        self.done(ledger, ("leave", "ann"), ("leave", "bob"))

    def test_a_ring_without_room_in_the_purses(self):
        folk, skills = names(12), names(12, "s")
        ledger = ledger_of(*[("join", name, 0, 0) for name in folk])
        for at, skill in enumerate(skills):
            self.done(ledger, ("offer", folk[at], skill, GREAT), ("wish", folk[at - 1], skill, GREAT))
        self.assertEqual(moved(self.closed(ledger)), 12 * GREAT)
        self.assertEqual((ledger.day(), {row[1] for row in ledger.town()}), (([], []), {0}))

    def test_a_close_of_forty(self):
        ledger = full_ledger(24)
        for name, skill in zip(names(12)[::-1], ["sae"] * 8 + ["saf"] * 4):
            self.done(ledger, ("offer", name, skill, 7))
        self.done(ledger, *[("wish", name, "sae", 5) for name in names(4)])
        self.assertEqual(moved(self.closed(ledger)), 20)

    def test_drawn_rows_of_deeds(self):
        draw = random.Random(91)
        for number in range(40):
            ledger, book, jobs = Ledger(), [], 0
            for _ in range(60):
                deed = drawn_deed(draw)
                before = state(ledger)
                with self.subTest(number=number, deed=deed, before=before):
                    if deed == CLOSE:
                        jobs += len(self.closed(ledger))
                        book.append(deed)
                    elif outcome(ledger.do, deed) is None:
                        book.append(deed)
                    else:
                        self.assertTrue(issubclass(outcome(ledger.do, deed), RingError))
                        self.assertEqual(state(ledger), before)
                    self.assertEqual(ledger.book(), book)
                    self.assertEqual(sum(row[1] for row in ledger.town()), 0)
                    self.assertIs(need_town(ledger.town()), None)
                    self.assertIs(need_day(ledger.town(), ledger.day()), None)


class TakenBack(LedgerCase):
    def back(self, ledger, *deeds):
        """Deeds that are done, and taken back one by one: all is then as it was ahead of each."""
        states = []
        for deed in deeds:
            states.append(state(ledger))
            ledger.do(deed)
        for before in reversed(states):
            self.assertIs(ledger.undo(), None)
            self.assertEqual(state(ledger), before)

    def test_nothing_to_take_back(self):
        ledger = Ledger()
        for _ in range(2):
            self.assertRaises(NoDeed, ledger.undo)
            self.assertEqual(state(ledger), ([], ([], []), []))

    def test_each_deed(self):
        start = [*JOINS, ("offer", "ann", "dig", 3), ("wish", "bob", "dig", 2), ("offer", "ann", "sew", 1)]
        for deed in [("join", "dora", -1, 1), ("bounds", "ann", -1, 1), ("leave", "cleo"), ("gift", "ann", "cleo", 5),
                     ("offer", "bob", "cook", 5), ("offer", "ann", "dig", 5), ("offer", "ann", "dig", 0),
                     ("wish", "cleo", "dig", 1), ("wish", "bob", "dig", 5), ("wish", "bob", "dig", 0), CLOSE]:
            with self.subTest(deed):
                ledger = ledger_of(*start)
                self.back(ledger, deed)
                self.back(ledger, deed, CLOSE)
                self.back(ledger, *[("offer", "ann", "dig", 1), deed] * 2 if deed[0] in ("offer", "wish") else [deed])

    def test_what_stood_in_the_midst_stands_there_again(self):
        ledger = ledger_of(*JOINS, *DAY)
        self.back(ledger, ("offer", "ann", "dig", 0), ("offer", "ann", "dig", 7), ("wish", "cleo", "cook", 0))
        ledger = ledger_of(*JOINS)
        self.back(ledger, ("leave", "bob"), ("join", "bob", -1, 1), ("leave", "ann"))

    def test_deeds_behind_which_nothing_was_other(self):
        ledger = ledger_of(*JOINS, ("offer", "ann", "dig", 3))
        self.back(ledger, ("wish", "ann", "dig", 0), ("offer", "bob", "dig", 0), ("offer", "ann", "dig", 3),
                  ("bounds", "ann", -9, 9), CLOSE)
        self.done(ledger, ("offer", "bob", "dig", 0))
        ledger.undo()
        self.assertEqual(ledger.day(), ([("ann", "dig", 3)], []))

    def test_closes(self):
        ledger = ledger_of(*JOINS, *DAY)
        self.back(ledger, CLOSE, CLOSE, ("wish", "cleo", "dig", 9), CLOSE)

    def test_a_close_taken_back_and_made_again(self):
        ledger = ledger_of(*JOINS, *DAY)
        told = ledger.do(CLOSE)
        after = state(ledger)
        ledger.undo()
        self.assertEqual(ledger.do(CLOSE), told)
        self.assertEqual(state(ledger), after)

    def test_what_was_refused_is_not_taken_back(self):
        ledger = ledger_of(*JOINS)
        self.refused(ledger, ("gift", "ann", "ann", 1), OutOfBounds, "ann")
        ledger.undo()
        self.assertEqual(ledger.book(), JOINS[:2])

    def test_to_nothing(self):
        ledger = Ledger()
        self.back(ledger, *JOINS, *DAY, CLOSE, ("gift", "ann", "cleo", 1), CLOSE)
        self.assertRaises(NoDeed, ledger.undo)
        self.assertEqual(state(ledger), ([], ([], []), []))
        self.done(ledger, *JOINS)

    def test_other_deeds_behind_what_was_taken_back(self):
        ledger = ledger_of(*JOINS, *DAY, CLOSE)
        ledger.undo()
        ledger.undo()
        self.done(ledger, ("wish", "cleo", "sew", 1))
        self.assertEqual(ledger.book(), [*JOINS, *DAY[:-1], ("wish", "cleo", "sew", 1)])
        self.assertEqual(ledger.do(CLOSE)[0], [("ann", "bob", "dig", 5), ("bob", "cleo", "sew", 1)])

    def test_drawn_rows_of_deeds(self):
        draw = random.Random(92)
        for number in range(30):
            ledger, states = Ledger(), []
            for _ in range(80):
                before = state(ledger)
                if draw.randrange(4):
                    outcome(ledger.do, drawn_deed(draw))
                    if len(ledger.book()) > len(before[2]):
                        states.append(before)
                elif states:
                    ledger.undo()
                    self.assertEqual(state(ledger), states.pop())
            for before in reversed(states):
                ledger.undo()
                self.assertEqual(state(ledger), before)
            self.assertRaises(NoDeed, ledger.undo)


class Books(LedgerCase):
    def test_all_deeds_in_order(self):
        deeds = [*JOINS, *DAY, CLOSE, ("offer", "cleo", "dig", 0), ("offer", "cleo", "dig", 0), CLOSE, CLOSE]
        self.assertEqual(ledger_of(*deeds).book(), deeds)

    def test_what_is_refused_does_not_stand_in_it(self):
        ledger = ledger_of(*JOINS)
        for deed in [("join", "ann", 0, 0), ("leave", "zed"), ["leave", "ann"], None, ("close", "now")]:
            outcome(ledger.do, deed)
        self.assertEqual(ledger.book(), JOINS)

    def test_played_of_a_book(self):
        for deeds in [[], JOINS, [*JOINS, *DAY], [*JOINS, *DAY, CLOSE, ("gift", "cleo", "ann", 1), CLOSE, CLOSE]]:
            ledger = ledger_of(*deeds)
            other = played(ledger.book())
            self.assertIs(other.__class__, Ledger)
            self.assertEqual(state(other), state(ledger))
            for _ in deeds:
                other.undo()
                ledger.undo()
                self.assertEqual(state(other), state(ledger))

    def test_played_of_what_is_refused(self):
        bad = [("join", "ann", -1, 1), ("leave", "zed"), ("gift", "bob", "bob", 1), ("wish", "ann", "dig", 1),
               ("offer", "zed", "dig", 1), ["close"], "close", None, ("close", 1), ("bounds", "ann", 6, 9)]
        deeds = [*JOINS, *DAY, CLOSE]
        mixed = [*bad[4:], *deeds[:3], *bad[:3], deeds[3], *bad, *deeds[4:], *bad[4:]]
        self.assertEqual(state(played(mixed)), state(ledger_of(*deeds)))
        self.assertEqual(played(mixed).book(), deeds)
        self.assertEqual(state(played(bad[1:])), ([], ([], []), []))

    def test_played_of_one_neighbour_too_many(self):
        deeds = [("join", name, -9, 9) for name in names(14)]
        self.assertEqual(played(deeds).book(), deeds[:12])

    def test_played_of_any_things(self):
        self.assertEqual(played(odd_things() + JOINS + odd_things()).book(), JOINS)

    def test_a_list_that_is_changed_behind_the_call(self):
        deeds = [*JOINS, *DAY]
        ledger = played(deeds)
        deeds.clear()
        self.assertEqual(ledger.book(), [*JOINS, *DAY])
        deeds.append(CLOSE)
        self.assertEqual(ledger.book(), [*JOINS, *DAY])
        ledger.undo()
        self.assertEqual((deeds, ledger.book()), ([CLOSE], [*JOINS, *DAY[:-1]]))

    def test_played_changes_nothing_of_the_list(self):
        deeds = [*JOINS, ("leave", "zed"), *DAY, CLOSE]
        copied = list(deeds)
        played(deeds).do(CLOSE)
        self.assertEqual(deeds, copied)

    def test_played_twice_of_one_list(self):
        deeds = [*JOINS, *DAY]
        one, other = played(deeds), played(deeds)
        one.do(CLOSE)
        self.assertEqual(state(other), state(ledger_of(*deeds)))


class Untouched(LedgerCase):
    """Point 1 for a ledger: what it tells is the asker's own, and the same each time."""

    def test_what_is_told_may_be_changed(self):
        for many in range(len(JOINS + DAY) + 1):
            ledger = ledger_of(*(JOINS + DAY)[:many])
            for call in [ledger.town, ledger.day, ledger.book]:
                before = state(ledger)
                spoil(call())
                self.assertEqual(state(ledger), before)

    def test_what_is_told_changes_no_later_deed(self):
        ledger, other = ledger_of(*JOINS, *DAY), ledger_of(*JOINS, *DAY)
        for call in [ledger.town, ledger.day, ledger.book]:
            spoil(call())
        self.assertEqual(ledger.do(CLOSE), other.do(CLOSE))
        self.assertEqual(state(ledger), state(other))
        ledger.undo()
        other.undo()
        self.assertEqual(state(ledger), state(other))

    def test_what_a_close_tells_may_be_changed(self):
        ledger, other = ledger_of(*JOINS, *DAY), ledger_of(*JOINS, *DAY)
        spoil(ledger.do(CLOSE))
        other.do(CLOSE)
        self.assertEqual(state(ledger), state(other))
        ledger.undo()
        other.undo()
        self.assertEqual(ledger.do(CLOSE), other.do(CLOSE))

    def test_what_is_told_does_not_change_with_the_ledger(self):
        ledger = ledger_of(*JOINS, *DAY)
        kept = state(ledger), state(ledger)
        told = ledger.do(CLOSE)
        jobs, prices = list(told[0]), dict(told[1])
        for deed in [("gift", "ann", "bob", 1), ("join", "dora", -1, 1), ("offer", "dora", "weave", 1), CLOSE]:
            ledger.do(deed)
        ledger.undo()
        self.assertEqual(kept[0], kept[1])
        self.assertEqual(kept[0], state(ledger_of(*JOINS, *DAY)))
        self.assertEqual(told, (jobs, prices))

    def test_the_same_each_time(self):
        for deeds in [[], JOINS, JOINS + DAY, [*JOINS, *DAY, CLOSE]]:
            ledgers = [ledger_of(*deeds) for _ in range(3)]
            for ledger, _ in product(ledgers, range(3)):
                self.assertEqual(state(ledger), state(ledgers[0]))
            told = [ledger.do(CLOSE) for ledger in ledgers]
            self.assertEqual(told, [told[0]] * 3)

    def test_a_bad_deed_is_left_as_it_is(self):
        things = [["join", "ann", -1, 1], ("offer", ["ann"], {"dig": 1}, [1]), {"close": []}]
        copied = [["join", "ann", -1, 1], ("offer", ["ann"], {"dig": 1}, [1]), {"close": []}]
        ledger = ledger_of(*JOINS)
        for thing in things:
            outcome(ledger.do, thing)
        self.assertEqual(things, copied)
