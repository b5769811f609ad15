"""What several tests share."""

import unittest
from itertools import product

from hourring.desk import Desk
from hourring.errors import RingError
from hourring.ledger import Ledger
from hourring.towns import is_exchange, skills_of

GREAT = 10 ** 30
LETTERS = "abcdefghijklmnopqrstuvwxyz"
# All signs that may be handed in, but for the letters of names.
OTHER_SIGNS = [chr(code) for code in range(127) if chr(code) not in LETTERS + "%"]


class Prickly:
    """A thing that can be neither compared nor put into a dict nor written out."""

    def __eq__(self, other):
        raise RuntimeError("compared")

    __hash__ = None
    __lt__ = __le__ = __gt__ = __ge__ = __len__ = __iter__ = __bool__ = __repr__ = __str__ = __eq__


def odd_things():
    """Things that are no town, no day, no jobs, no row, no name and no hours."""
    looped = ()
    holder = [looped]
    looped = (holder,)
    holder.append(looped)
    return [
        None, True, False, -1, 10 ** 5000, -10 ** 5000, "", "Ann", "ann bob", b"ann", bytearray(b"ann"),
        (), ("ann",), looped, holder, {"ann": 1}, {"ann"}, frozenset(), range(3), iter([]), object(),
        Prickly(), [Prickly()], (Prickly(), Prickly(), Prickly()), (Prickly(),) * 4, ([], [], []), ({}, {}, {}, {}),
        Prickly, len, lambda: None, NotImplemented, Ellipsis, ValueError("ann"),
    ]


def outcome(call, *given):
    """What a call tells, or the class of the error that it raises."""
    try:
        return call(*given)
    except Exception as error:
        return error.__class__


def names(many, first=""):
    """So many names, all unlike."""
    return [first + LETTERS[at // 26] + LETTERS[at % 26] for at in range(many)]


def even_town(many=3, purse=0, floor=-100, ceiling=100):
    """A town of so many neighbours with like purses: aa, ab, ac .."""
    return [(name, purse, floor, ceiling) for name in names(many)]


def keys_of(town, day):
    """The keys that prices of a day have."""
    return [("name", row[0]) for row in town] + [("skill", skill) for skill in skills_of(day)]


def exchanges(town, day):
    """All exchanges of a day of few hours."""
    offers, wishes = day
    places = [(one, two, skill, min(much, many)) for one, skill, much in offers for two, same, many in wishes
              if skill == same]
    for hours in product(*[range(most + 1) for _, _, _, most in places]):
        jobs = [place[:3] + (much,) for place, much in zip(places, hours) if much]
        if is_exchange(town, day, jobs):
            yield jobs


def spoil(told):
    """Change all lists and dicts of what was told."""
    if isinstance(told, tuple):
        for part in told:
            spoil(part)
    if isinstance(told, list):
        told.reverse()
        told.append("spoilt")
    if isinstance(told, dict):
        told.clear()
        told["spoilt"] = 0


def state(ledger):
    """All that a ledger tells."""
    return ledger.town(), ledger.day(), ledger.book()


def ledger_of(*deeds):
    """A ledger in which all these deeds were done."""
    ledger = Ledger()
    for deed in deeds:
        ledger.do(deed)
    return ledger


def full_ledger(rows):
    """A ledger of twelve neighbours, who offer so many rows of a spread."""
    joins = [("join", name, -9, 9) for name in names(12)]
    return ledger_of(*joins, *[("offer",) + row for row in spread(rows)])


def spread(many):
    """So many rows of a town of twelve, in which no neighbour and skill stand together twice."""
    return [(name, skill, 1) for skill in names(12, "s") for name in names(12)][:many]


class LedgerCase(unittest.TestCase):
    def done(self, ledger, *deeds):
        """Deeds that are done one behind another; none of them is a close."""
        for deed in deeds:
            book = ledger.book()
            self.assertIs(ledger.do(deed), None)
            self.assertEqual(ledger.book(), book + [deed])
            self.assertEqual(sum(row[1] for row in ledger.town()), 0)

    def refused(self, ledger, deed, kind, name=None):
        """A deed that is refused with just this error, of this name, and changes nothing."""
        before = state(ledger)
        with self.assertRaises(RingError) as caught:
            ledger.do(deed)
        self.assertIs(caught.exception.__class__, kind)
        if name is not None:
            self.assertEqual(caught.exception.name, name)
        self.assertEqual(state(ledger), before)

    def is_now(self, ledger, town, offers=(), wishes=()):
        self.assertEqual(ledger.town(), list(town))
        self.assertEqual(ledger.day(), (list(offers), list(wishes)))

    def side(self, ledger, word):
        """What is open of offers, or of wishes; nothing is on the other side."""
        offers, wishes = ledger.day()
        self.assertEqual(wishes if word == "offer" else offers, [])
        return offers if word == "offer" else wishes


def desk_of(*lines):
    """A desk to which all these lines were said; none of them was refused."""
    desk = Desk()
    for line in lines:
        answer = desk.say(line)
        if answer != ["ok"] and not answer[-1].startswith("moved "):
            raise ValueError(f"{line}: {answer}")
    return desk


def view(desk):
    """All that a desk tells."""
    return [desk.say(line) for line in ["book", "paper", *["purse " + name for name in ["ann", "bob", "cleo", "dora"]]]]


class DeskCase(unittest.TestCase):
    def answers(self, desk, line, answer):
        told = desk.say(line)
        self.assertEqual(told, answer)
        self.assertEqual((told.__class__, {text.__class__ for text in told} - {str}), (list, set()))

    def says(self, desk, *pairs):
        for line, answer in pairs:
            with self.subTest(line):
                self.answers(desk, line, answer)

    def refuses(self, desk, line, answer):
        """A line that is answered so and changes nothing."""
        before = view(desk)
        self.answers(desk, line, answer)
        self.assertEqual(view(desk), before)
