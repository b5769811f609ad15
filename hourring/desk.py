"""A desk: it takes lines, does with its ledger what they say, and answers with lines."""

from hourring.deeds import WORDS
from hourring.errors import BadDeed, Both, NoDeed, NoNeighbour, OutOfBounds, TooMany, Twice
from hourring.ledger import Ledger
from hourring.papers import bound
from hourring.towns import is_name, moved, skills_of

MOST_SIGNS = 400
FIGURES = "0123456789"


class Desk:
    """A ledger to which one speaks by lines."""

    def __init__(self):
        self.ledger = Ledger()
        # What "paper" answers: ahead of all deeds, and then behind each one, so that undo takes it back as well.
        self.papers = [["no paper"]]

    def say(self, line):
        """Do what a line says, and answer it."""
        pieces = [piece for piece in line.split(" ") if piece]
        if len(line) > MOST_SIGNS or not pieces:
            return ["no line"]
        if pieces[0] in WORDS:
            return self._do(tuple([_read(piece) for piece in pieces]))
        match pieces:
            case ["paper"]:
                return list(self.papers[-1])
            case ["purse", name]:
                return self._purse(name)
            case ["undo"]:
                return self._undo()
            case ["book"]:
                return [_line_of(deed) for deed in self.ledger.book()]
        return ["no line"]

    def _do(self, deed):
        town, day = self.ledger.town(), self.ledger.day()
        try:
            told = self.ledger.do(deed)
        except BadDeed:
            return ["bad deed"]
        except Twice as twice:
            return [f"twice {twice.name}"]
        except TooMany:
            return ["too many"]
        except NoNeighbour as missing:
            return [f"no {missing.name}"]
        except OutOfBounds as outside:
            return [f"out of bounds {outside.name}"]
        except Both as both:
            return [f"both {both.name}"]
        if told is None:
            self.papers.append(self.papers[-1])
            return ["ok"]
        jobs, prices = told
        self.papers.append(_paper_of(town, day, prices))
        return [_line_of(job) for job in jobs] + [f"moved {moved(jobs)}"]

    def _undo(self):
        try:
            self.ledger.undo()
        except NoDeed:
            return ["no deed"]
        self.papers.pop()
        return ["ok"]

    def _purse(self, name):
        if not is_name(name):
            return ["no line"]
        for row in self.ledger.town():
            if row[0] == name:
                return [_line_of(row[1:])]
        return [f"no {name}"]


def _read(piece):
    """The number that a piece is, or the piece itself: the ledger judges whether it stands at its place."""
    return int(piece) if _is_number(piece) else piece


def _is_number(piece):
    """Whether a piece is a number as numbers are written."""
    if piece == "0":
        return True
    figures = piece[1:] if piece[0] == "-" else piece
    return figures != "" and figures[0] != "0" and all([sign in FIGURES for sign in figures])


def _line_of(row):
    return " ".join([str(part) for part in row])


def _paper_of(town, day, prices):
    """A paper of prices as lines."""
    names = [row[0] for row in town]
    lines = [_line_of((name, prices[("name", name)])) for name in names]
    lines.extend([_line_of((skill, prices[("skill", skill)])) for skill in skills_of(day)])
    return lines + [f"bound {bound(town, day, prices)}"]
