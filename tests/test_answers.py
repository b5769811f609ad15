"""What a desk tells: purses, books, papers, and what is taken back: point 12, and point 1 for a desk."""

import random
from itertools import product

from hourring.desk import Desk
from hourring.ledger import Ledger
from hourring.papers import bound
from tests.helper import GREAT, OTHER_SIGNS, DeskCase, desk_of, keys_of, outcome, spoil, view

NO_LINE, BAD, OK = ["no line"], ["bad deed"], ["ok"]
JOINS = ["join ann -9 9", "join bob -5 5", "join cleo -9 9"]
DAY = ["offer ann dig 7", "wish cleo cook 1", "offer bob sew 2", "wish bob dig 5", "wish cleo sew 3"]
JOBS = ["ann bob dig 5", "bob cleo sew 2", "moved 7"]
RING = ["join ann 0 0", "join bob 0 0", "join cleo 0 0", "offer ann dig 7", "offer bob sew 2", "offer cleo cook 9",
        "wish bob dig 8", "wish cleo sew 8", "wish ann cook 8"]
OTHERS = ["join dora -5 5", "bounds ann -8 8", "leave cleo", "gift ann bob 2", "offer bob dig 3", "close", "paper",
          "purse ann", "undo", "book", "leave 5", ""]


class Questions(DeskCase):
    def test_a_piece_more(self):
        desk = desk_of(*JOINS, *DAY, "close")
        words = ["undo", "book", "paper"]
        for word, more in product(words, ["1", "0", "-1", "ann", "x x", "~", *words]):
            with self.subTest(word=word, more=more):
                self.refuses(desk, f"{word} {more}", NO_LINE)

    def test_purse(self):
        desk = desk_of(*JOINS, "gift cleo ann 8", "bounds bob 0 0")
        self.says(desk, ("purse ann", ["8 -9 9"]), ("purse bob", ["0 0 0"]), ("purse cleo", ["-8 -9 9"]))

    def test_purse_of_none_or_of_two(self):
        desk = desk_of(*JOINS)
        for line in ["purse", "purse ann bob", "purse ann ann", "purse ann 1", "purse ann bob cleo"]:
            with self.subTest(line):
                self.refuses(desk, line, NO_LINE)

    def test_purse_of_one_who_is_no_neighbour(self):
        self.answers(Desk(), "purse ann", ["no ann"])
        desk = desk_of(*JOINS, "offer ann dig 1", "leave cleo")
        for name in ["cleo", "dig", "a", "abcdefgh", "an", "anna", "purse"]:
            with self.subTest(name):
                self.refuses(desk, "purse " + name, ["no " + name])

    def test_purse_of_a_name_that_is_none(self):
        desk = desk_of(*JOINS)
        for name in ["Ann", "ANN", "ann1", "1", "0", "-5", "abcdefghi", "ann,", "an-n", "ann\t", "ann\n", "-", "~"]:
            with self.subTest(name):
                self.refuses(desk, "purse " + name, NO_LINE)

    def test_undo(self):
        desk = Desk()
        self.says(desk, ("undo", ["no deed"]), ("join ann -1 1", OK), ("undo", OK), ("undo", ["no deed"]),
                  ("purse ann", ["no ann"]), ("book", []), ("undo", ["no deed"]))

    def test_undo_takes_no_line_back_but_deeds(self):
        desk = desk_of(*JOINS)
        self.says(desk, ("leave zed", ["no zed"]), ("leave 5", BAD), ("what", NO_LINE), ("book", JOINS),
                  ("paper", ["no paper"]), ("undo", OK), ("book", JOINS[:2]))

    def test_undo_all_the_way(self):
        lines = [*JOINS, *DAY, "close", "gift cleo ann 1", "close"]
        desk, views = Desk(), []
        for line in lines:
            views.append(view(desk))
            desk.say(line)
        for before in reversed(views):
            self.answers(desk, "undo", OK)
            self.assertEqual(view(desk), before)
        self.answers(desk, "undo", ["no deed"])

    def test_book(self):
        self.answers(Desk(), "book", [])
        lines = [*JOINS, *DAY, "close", "wish ann weave 0", f"bounds ann -{GREAT} {GREAT}", "close", "close"]
        desk = desk_of(*lines)
        self.answers(desk, "book", lines)
        self.assertEqual(view(desk_of(*desk.say("book"))), view(desk))

    def test_book_tells_lines_as_they_are_written(self):
        desk = desk_of("  join   ann -5    5 ", " close ")
        self.answers(desk, "book", ["join ann -5 5", "close"])


class Papers(DeskCase):
    def paper(self, *lines):
        """The paper of a desk to which these lines, and then close, were said; a ledger tells the same prices."""
        desk, ledger = desk_of(*lines), Ledger()
        for line in lines:
            ledger.do(tuple([int(piece) if piece.strip("-").isdigit() else piece for piece in line.split()]))
        town, day = ledger.town(), ledger.day()
        jobs, prices = ledger.do(("close",))
        hours = sum(job[3] for job in jobs)
        self.answers(desk, "close", [" ".join(map(str, job)) for job in jobs] + [f"moved {hours}"])
        told = [f"{key[1]} {prices[key]}" for key in keys_of(town, day)]
        self.assertEqual(bound(town, day, prices), hours)
        self.answers(desk, "paper", told + [f"bound {hours}"])
        return desk, desk.say("paper")

    def firsts(self, paper):
        return [line.split()[0] for line in paper]

    def test_no_paper(self):
        self.answers(Desk(), "paper", ["no paper"])
        self.answers(desk_of(*JOINS, *DAY), "paper", ["no paper"])

    def test_of_nothing(self):
        desk, paper = self.paper()
        self.assertEqual(paper, ["bound 0"])
        desk, paper = self.paper(*JOINS)
        self.assertEqual(self.firsts(paper), ["ann", "bob", "cleo", "bound"])

    def test_neighbours_and_skills_in_order(self):
        desk, paper = self.paper(*JOINS, *DAY)
        self.assertEqual(self.firsts(paper), ["ann", "bob", "cleo", "dig", "sew", "cook", "bound"])
        self.assertEqual(paper[-1], "bound 7")
        day = ["wish ann sew 1", "wish ann cook 1", "offer bob dig 1", "offer bob cook 1"]
        desk, paper = self.paper(*JOINS[::-1], *day)
        self.assertEqual(self.firsts(paper), ["cleo", "bob", "ann", "dig", "cook", "sew", "bound"])

    def test_a_neighbour_and_a_skill_of_one_name(self):
        desk, paper = self.paper(*JOINS, "offer ann ann 3", "wish bob ann 4", "wish cleo bound 1")
        self.assertEqual(self.firsts(paper), ["ann", "bob", "cleo", "ann", "bound", "bound"])

    def test_prices_below_nought_and_above(self):
        desk, paper = self.paper(*RING)
        self.assertEqual(paper[-1], "bound 6")
        desk, paper = self.paper(*JOINS, "bounds ann -9 0", "offer ann dig 5", "wish bob dig 3", "offer cleo sew 5")
        self.assertEqual(paper[-1], "bound 0")

    def test_as_told_at_the_close_whatever_comes_behind(self):
        desk, paper = self.paper(*JOINS, *DAY)
        for line in ["join dora -1 1", "gift ann cleo 1", "offer dora weave 3", "wish cleo cook 0", "offer ann dig 0",
                     "bounds bob -9 9", "wish cleo sew 0", "gift ann bob 3", "leave bob"]:
            self.answers(desk, line, OK)
            self.answers(desk, "paper", paper)

    def test_the_last_one_of_several(self):
        desk, first = self.paper(*JOINS, *DAY)
        self.answers(desk, "join dora -1 1", OK)
        self.answers(desk, "close", ["moved 0"])
        second = desk.say("paper")
        self.assertEqual(self.firsts(second), ["ann", "bob", "cleo", "dora", "dig", "cook", "sew", "bound"])
        self.assertNotEqual(second, first)

    def test_a_close_that_was_taken_back(self):
        desk, first = self.paper(*JOINS, *DAY)
        desk.say("join dora -1 1")
        desk.say("close")
        second = desk.say("paper")
        desk.say("wish dora sew 1")
        self.says(desk, ("paper", second), ("undo", OK), ("paper", second), ("undo", OK), ("paper", first),
                  ("undo", OK), ("paper", first), ("undo", OK), ("paper", ["no paper"]), ("undo", OK),
                  ("paper", ["no paper"]))

    def test_a_close_made_again(self):
        desk, first = self.paper(*JOINS, *DAY)
        self.says(desk, ("undo", OK), ("paper", ["no paper"]), ("close", JOBS), ("paper", first), ("undo", OK),
                  ("offer ann dig 4", OK), ("close", ["ann bob dig 4", "bob cleo sew 2", "moved 6"]))
        self.assertEqual(desk.say("paper")[-1], "bound 6")

    def test_refused_lines_leave_it(self):
        desk, paper = self.paper(*JOINS, *DAY)
        for line in ["leave zed", "leave 5", "close 1", "gift ann ann 1", "paper 1", "", "what"]:
            desk.say(line)
            self.answers(desk, "paper", paper)
        self.says(desk, ("undo", OK), ("paper", ["no paper"]))


class Untouched(DeskCase):
    """Point 1 for a desk."""

    def test_what_is_told_may_be_changed(self):
        for lines in [[], JOINS, JOINS + DAY, [*JOINS, *DAY, "close"], [*JOINS, *DAY, "close", "undo"]]:
            desk = desk_of(*lines)
            before = view(desk)
            for line in ["book", "paper", "purse ann", "purse zed", "", "leave zed", "leave 5", "what"]:
                spoil(desk.say(line))
                spoil(desk.say(line))
                self.assertEqual(view(desk), before)
            spoil(desk.say("join fay -1 1"))
            spoil(desk.say("close"))
            spoil(desk.say("paper"))
            self.assertEqual(view(desk), view(desk_of(*lines, "join fay -1 1", "close")))
            spoil(desk.say("undo"))
            spoil(desk.say("undo"))
            self.assertEqual(view(desk), before)

    def test_what_is_told_does_not_change_with_the_desk(self):
        desk = desk_of(*JOINS, *DAY, "close")
        told, copied = view(desk), view(desk)
        for line in ["gift ann bob 1", "join dora -1 1", "close", "undo", "undo"]:
            desk.say(line)
        self.assertEqual(told, copied)

    def test_each_desk_is_its_own(self):
        one, other = Desk(), Desk()
        one.say("join ann -1 1")
        one.say("close")
        self.assertEqual((other.say("book"), other.say("paper"), other.say("undo")), ([], ["no paper"], ["no deed"]))

    def test_the_same_each_time(self):
        draw = random.Random(121)
        for _ in range(30):
            lines = draw.choices([*JOINS, *DAY, *OTHERS, "close", "undo"], k=60)
            one, other = Desk(), Desk()
            for line in lines:
                with self.subTest(line):
                    self.assertEqual(one.say(line), other.say(line))
                    self.assertEqual(view(one), view(other))

    def test_any_text(self):
        draw = random.Random(122)
        signs = "".join(OTHER_SIGNS) + "abcxyz"
        words = ["join", "offer", "wish", "gift", "close", "purse", "undo", "book", "paper", "ann", "bob", "-1", "0"]
        desk = desk_of(*JOINS)
        for number in range(3000):
            pieces = [draw.choice(words + ["".join(draw.choices(signs, k=draw.randrange(5)))]) for _ in range(4)]
            line = " ".join(pieces[:draw.randrange(5)])
            with self.subTest(line):
                told = outcome(desk.say, line)
                self.assertIs(told.__class__, list)
                self.assertTrue(all(text.__class__ is str for text in told))
