"""A ledger: it keeps neighbours, their purses, and what is open of offers and wishes, by deeds that are done."""

from hourring.deeds import is_deed
from hourring.errors import BadDeed, Both, NoDeed, NoNeighbour, OutOfBounds, RingError, TooMany, Twice
from hourring.exchanges import best
from hourring.towns import MOST_NEIGHBOURS, MOST_ROWS, MOST_SKILLS, skills_of


class Ledger:
    """Neighbours, offers and wishes as a row of deeds left them."""

    def __init__(self):
        # The rows of a town and of a day. A deed puts a new list in the place of an old one and changes none, so
        # the past keeps the lists as they were.
        self.neighbours = []
        self.offers = []
        self.wishes = []
        self.past = []

    def do(self, deed):
        """Do a deed, or refuse it. Of a close the jobs and prices are told."""
        # The error does not show the thing itself: it may be too long to be written out.
        if not is_deed(deed):
            raise BadDeed("this is no deed")
        ahead = (deed, self.neighbours, self.offers, self.wishes)
        told = self._make(deed)
        self.past.append(ahead)
        return told

    def undo(self):
        """Take the last deed back."""
        if not self.past:
            raise NoDeed("there is no deed to take back")
        _, self.neighbours, self.offers, self.wishes = self.past.pop()

    def book(self):
        """All deeds that were done and not taken back."""
        return [ahead[0] for ahead in self.past]

    def town(self):
        """The town as it is now."""
        return list(self.neighbours)

    def day(self):
        """What is open now."""
        return list(self.offers), list(self.wishes)

    def _make(self, deed):
        match deed:
            case ("join", name, floor, ceiling):
                self._join(name, floor, ceiling)
            case ("bounds", name, floor, ceiling):
                self._bounds(name, floor, ceiling)
            case ("leave", name):
                self._leave(name)
            case ("gift", one, other, hours):
                self._gift(one, other, hours)
            case ("offer", name, skill, hours):
                self._need_free(self.offers, self.wishes, name, skill, hours)
                self.offers = _changed(self.offers, name, skill, hours)
            case ("wish", name, skill, hours):
                self._need_free(self.wishes, self.offers, name, skill, hours)
                self.wishes = _changed(self.wishes, name, skill, hours)
            case ("close",):
                return self._close()
        return None

    def _join(self, name, floor, ceiling):
        if name in [row[0] for row in self.neighbours]:
            raise Twice(name)
        if len(self.neighbours) >= MOST_NEIGHBOURS:
            raise TooMany("there are as many neighbours as there may be")
        self.neighbours = [*self.neighbours, (name, 0, floor, ceiling)]

    def _bounds(self, name, floor, ceiling):
        purse = _row_of(self.neighbours, name)[1]
        now = (name, purse, floor, ceiling)
        _need_purse_in_bounds(now)
        self.neighbours = [now if row[0] == name else row for row in self.neighbours]

    def _leave(self, name):
        purse = _row_of(self.neighbours, name)[1]
        if purse != 0 or name in [row[0] for row in self.offers + self.wishes]:
            raise OutOfBounds(name)
        self.neighbours = [row for row in self.neighbours if row[0] != name]

    def _gift(self, one, other, hours):
        for name in (one, other):
            _row_of(self.neighbours, name)
        if one == other:
            raise OutOfBounds(one)
        paid = _paid(self.neighbours, one, other, hours)
        for name in (one, other):
            _need_purse_in_bounds(_row_of(paid, name))
        self.neighbours = paid

    def _need_free(self, mine, others, name, skill, hours):
        """Refuse an offer, or a wish, that is not to be made; mine are the rows of its side."""
        _row_of(self.neighbours, name)
        if hours == 0:
            return
        if _hours_of(others, name, skill) > 0:
            raise Both(name)
        if _hours_of(mine, name, skill) > 0:
            return
        skills = skills_of((mine, others))
        if len(mine) + len(others) >= MOST_ROWS or (skill not in skills and len(skills) >= MOST_SKILLS):
            raise TooMany("there are as many offers and wishes, or skills, as there may be")

    def _close(self):
        jobs, prices = best(self.town(), self.day())
        for giver, taker, skill, hours in jobs:
            self.neighbours = _paid(self.neighbours, taker, giver, hours)
            self.offers = _changed(self.offers, giver, skill, _hours_of(self.offers, giver, skill) - hours)
            self.wishes = _changed(self.wishes, taker, skill, _hours_of(self.wishes, taker, skill) - hours)
        return jobs, prices


def played(deeds):
    """A ledger in which deeds were done one by one; what is refused is let pass."""
    ledger = Ledger()
    for deed in deeds:
        try:
            ledger.do(deed)
        except RingError:
            pass
    return ledger


def _row_of(neighbours, name):
    for row in neighbours:
        if row[0] == name:
            return row
    raise NoNeighbour(name)


def _need_purse_in_bounds(row):
    name, purse, floor, ceiling = row
    if not floor <= purse <= ceiling:
        raise OutOfBounds(name)


def _paid(neighbours, one, other, hours):
    """The neighbours when hours have gone from one's purse to another's."""
    change = {one: -hours, other: hours}
    return [(name, purse + change.get(name, 0), floor, ceiling) for name, purse, floor, ceiling in neighbours]


def _hours_of(rows, name, skill):
    """The hours of a skill that a neighbour has open among offers, or wishes; 0 where there is nothing."""
    return sum([row[2] for row in rows if row[:2] == (name, skill)])


def _changed(rows, name, skill, hours):
    """Offers, or wishes, with other hours for one: at its place, last where it is new, gone where 0 are left."""
    now = (name, skill, hours)
    changed = [now if row[:2] == now[:2] else row for row in rows]
    if now not in changed:
        changed.append(now)
    return [row for row in changed if row[2] > 0]
