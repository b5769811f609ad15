"""The lines of a desk, their pieces and numbers, and the answers to deeds: point 12."""

from itertools import product

from hourring.desk import Desk
from tests.helper import GREAT, OTHER_SIGNS, DeskCase, desk_of, names, spread

NO_LINE, BAD, OK = ["no line"], ["bad deed"], ["ok"]
JOINS = ["join ann -9 9", "join bob -5 5", "join cleo -9 9"]
DAY = ["offer ann dig 7", "wish cleo cook 1", "offer bob sew 2", "wish bob dig 5", "wish cleo sew 3"]
JOBS = ["ann bob dig 5", "bob cleo sew 2", "moved 7"]

# A line of each kind that a desk takes.
LINES = ["join dora -5 5", "bounds ann -8 8", "leave cleo", "gift ann bob 2", "offer ann sew 3", "wish bob cook 3",
         "close", "paper", "purse ann", "undo", "book"]
DEEDS = LINES[:7]
# Where numbers stand in them, by the line and the piece.
NUMBERS = [(0, 2), (0, 3), (1, 2), (1, 3), (3, 3), (4, 3), (5, 3)]


def padded(line, length):
    """The same pieces, in a line of so many signs."""
    return line + " " * (length - len(line))


class Deeds(DeskCase):
    def test_each_deed(self):
        desk = Desk()
        self.says(desk, *[(line, OK) for line in JOINS], ("gift ann bob 3", OK), ("purse ann", ["-3 -9 9"]),
                  ("purse bob", ["3 -5 5"]), ("bounds bob 1 4", OK), ("purse bob", ["3 1 4"]), ("gift bob ann 1", OK),
                  ("purse bob", ["2 1 4"]), ("leave cleo", OK), ("purse cleo", ["no cleo"]), ("offer ann dig 1", OK),
                  ("offer ann dig 0", OK), ("wish ann dig 0", OK), ("wish ann dig 2", OK))
        self.answers(desk, "book", JOINS + ["gift ann bob 3", "bounds bob 1 4", "gift bob ann 1", "leave cleo",
                                            "offer ann dig 1", "offer ann dig 0", "wish ann dig 0", "wish ann dig 2"])

    def test_each_refusal(self):
        desk = desk_of(*JOINS, "gift ann bob 3", "offer ann dig 2", "wish cleo sew 2")
        for line, answer in [
            ("join ann -1 1", "twice ann"), ("join bob 0 0", "twice bob"), ("join dora 1 5", "bad deed"),
            ("bounds zed -1 1", "no zed"), ("leave zed", "no zed"), ("gift zed yon 1", "no zed"),
            ("gift ann yon 1", "no yon"), ("offer zed dig 1", "no zed"), ("wish zed dig 0", "no zed"),
            ("leave ann", "out of bounds ann"), ("leave cleo", "out of bounds cleo"),
            ("gift cleo cleo 1", "out of bounds cleo"), ("gift ann bob 7", "out of bounds ann"),
            ("gift ann bob 3", "out of bounds bob"), ("bounds bob 4 5", "out of bounds bob"),
            ("wish ann dig 1", "both ann"), ("offer cleo sew 1", "both cleo"), ("gift ann bob 0", "bad deed"),
        ]:
            with self.subTest(line):
                self.refuses(desk, line, [answer])

    def test_too_many(self):
        desk = desk_of(*[f"join {name} -9 9" for name in names(12)])
        self.refuses(desk, "join zed -9 9", ["too many"])
        self.refuses(desk, "join ab -9 9", ["twice ab"])
        skills = names(12, "s")
        for skill in skills:
            self.answers(desk, f"offer aa {skill} 1", OK)
        self.refuses(desk, "wish ab more 1", ["too many"])
        for skill, name in product(skills[:7], names(5)[1:]):
            self.answers(desk, f"wish {name} {skill} 1", OK)
        self.refuses(desk, "wish af saa 1", ["too many"])
        self.refuses(desk, "wish aa saa 1", ["both aa"])

    def test_forty_rows(self):
        desk = desk_of(*[f"join {name} -9 9" for name in names(12)], *[f"offer {n} {s} 1" for n, s, _ in spread(40)])
        self.refuses(desk, "offer al sad 1", ["too many"])
        self.answers(desk, "offer al sad 0", OK)

    def test_close(self):
        desk = desk_of(*JOINS, *DAY)
        self.answers(desk, "close", JOBS)
        self.says(desk, ("purse ann", ["5 -9 9"]), ("purse bob", ["-3 -5 5"]), ("purse cleo", ["-2 -9 9"]))
        self.answers(desk, "close", ["moved 0"])

    def test_close_with_no_jobs(self):
        self.answers(Desk(), "close", ["moved 0"])
        self.answers(desk_of(*JOINS), "close", ["moved 0"])
        self.answers(desk_of(*JOINS, "offer ann dig 5"), "close", ["moved 0"])

    def test_close_of_very_great_hours(self):
        lines = []
        for name, other, skill in [("ann", "bob", "dig"), ("bob", "ann", "sew")]:
            lines += [f"offer {name} {skill} {GREAT}", f"wish {other} {skill} {GREAT}"]
        desk = desk_of("join ann 0 0", "join bob 0 0", *lines)
        self.answers(desk, "close", [f"ann bob dig {GREAT}", f"bob ann sew {GREAT}", f"moved {2 * GREAT}"])

    def test_a_word_with_a_piece_less_or_more(self):
        desk = desk_of(*JOINS)
        for line in DEEDS:
            pieces = line.split()
            for others in [pieces[:length] for length in range(1, len(pieces))]:
                with self.subTest(others):
                    self.refuses(desk, " ".join(others), BAD)
            for more in ["ann", "1", "0", "-1", "close", "x1", "-", "~"]:
                with self.subTest(line=line, more=more):
                    self.refuses(desk, line + " " + more, BAD)
                    self.refuses(desk, " ".join(pieces[:1] + [more] + pieces[1:]), BAD)

    def test_pieces_of_another_kind(self):
        desk = desk_of(*JOINS)
        for line in ["join 5 -1 1", "join -5 5 dora", "join dora -5 five", "join Dora -5 5", "join dora5 -5 5",
                     "leave 5", "leave Ann", "gift ann 2 bob", "gift 2 ann bob", "gift ann bob two", "offer ann 3 dig",
                     "offer ann Dig 3", "offer ann abcdefghi 3", "offer 3 dig ann", "wish ann dig-digs 3",
                     "bounds ann 8 -8", "bounds ann x y", "bounds 1 2 3", "close close", "close 0",
                     "join join join join"]:
            with self.subTest(line):
                self.refuses(desk, line, BAD)

    def test_words_as_names(self):
        desk = Desk()
        self.says(desk, ("join join -1 1", OK), ("join undo -1 1", OK), ("offer join wish 1", OK),
                  ("wish undo wish 1", OK), ("close", ["join undo wish 1", "moved 1"]), ("purse join", ["1 -1 1"]),
                  ("leave book", ["no book"]))


class Numbers(DeskCase):
    def test_as_they_are_not_written(self):
        desk = desk_of(*JOINS)
        for number, at in NUMBERS:
            for text in ["00", "01", "007", "-0", "-00", "-01", "-05", "+0", "+1", "+5", "--5", "-", "+", "--", "5-",
                         "-5-", "1_0", "1_000", "_1", "1_", "1.0", "1.", ".5", "1e3", "0x1", "1,000", "1'0", "O", "one",
                         "5h", "(5)", "5\t", "\t5", "5\n", "\n5", "- 5", "1 0", "", "\x00", "5\x0b", "\x1f5"]:
                pieces = DEEDS[number].split()
                pieces[at] = text
                with self.subTest(line=pieces):
                    self.refuses(desk, " ".join(pieces), BAD)

    def test_at_their_bounds_and_beyond(self):
        desk = desk_of(*JOINS)
        for line, answer in [
            (f"join dora -{GREAT} {GREAT}", OK), (f"bounds dora -{GREAT} {GREAT}", OK), ("join eve 0 0", OK),
            (f"join fay -{GREAT + 1} 0", BAD), (f"join fay 0 {GREAT + 1}", BAD), ("join fay 1 1", BAD),
            ("join fay -1 -1", BAD), (f"bounds dora -{GREAT + 1} 0", BAD), (f"bounds dora 0 {GREAT + 1}", BAD),
            (f"offer dora dig {GREAT}", OK), (f"offer dora dig {GREAT + 1}", BAD), ("offer dora dig -1", BAD),
            ("offer dora dig 0", OK), (f"wish dora sew {GREAT}", OK), (f"wish dora sew {GREAT + 1}", BAD),
            ("wish dora sew -1", BAD), ("wish dora sew 0", OK), ("gift dora ann 0", BAD), ("gift dora ann -1", BAD),
            (f"gift dora ann {GREAT + 1}", BAD), (f"gift dora ann {GREAT}", ["out of bounds ann"]),
            (f"bounds ann -{GREAT} {GREAT}", OK), (f"gift dora ann {GREAT}", OK),
            ("purse dora", [f"-{GREAT} -{GREAT} {GREAT}"]), ("purse ann", [f"{GREAT} -{GREAT} {GREAT}"]),
        ]:
            with self.subTest(line):
                self.answers(desk, line, answer)

    def test_as_long_as_a_line_can_hold(self):
        desk = desk_of(*JOINS)
        for figures in ["9" * 380, "-" + "9" * 380, "0" * 380, "-" + "0" * 380, "1" + "0" * 380]:
            self.refuses(desk, "offer ann dig " + figures, BAD)
            self.refuses(desk, f"bounds ann -1 {figures}", BAD)
            self.refuses(desk, f"gift ann bob {figures}", BAD)

    def test_each_figure(self):
        desk = desk_of("join ann -1234567890 9876543210")
        self.answers(desk, "purse ann", ["0 -1234567890 9876543210"])
        for figure in range(10):
            self.answers(desk, f"offer ann dig {figure}", OK)
            self.answers(desk, f"bounds ann -1{figure} {figure}", OK)
            self.answers(desk, "purse ann", [f"0 -1{figure} {figure}"])


class Pieces(DeskCase):
    def test_blanks_ahead_behind_and_between(self):
        for line in LINES:
            answer = desk_of(*JOINS).say(line)
            for blanks in [" ", "  ", " " * 70]:
                between = blanks.join(line.split())
                for other in [blanks + line, line + blanks, between, " " + between + blanks]:
                    with self.subTest(line=line, other=other):
                        self.answers(desk_of(*JOINS), other, answer)

    def test_a_line_of_four_hundred_signs_and_of_one_more(self):
        for line in LINES:
            answer = desk_of(*JOINS).say(line)
            for make in [padded, lambda text, length: padded(text, length)[::-1].replace(text[::-1], text)]:
                with self.subTest(line):
                    self.answers(desk_of(*JOINS), make(line, 399), answer)
                    self.answers(desk_of(*JOINS), make(line, 400), answer)
                    for length in [401, 402, 1000, 10 ** 5]:
                        self.refuses(desk_of(*JOINS), make(line, length), NO_LINE)

    def test_long_lines_of_other_forms(self):
        desk = desk_of(*JOINS)
        self.refuses(desk, "leave " + "a" * 394, BAD)
        self.refuses(desk, "leave " + "a" * 395, NO_LINE)
        self.refuses(desk, "close " * 66 + "done", BAD)
        self.refuses(desk, "close " * 66 + "close", NO_LINE)
        self.refuses(desk, "a" * 400, NO_LINE)
        self.refuses(desk, "a" * 401, NO_LINE)
        self.refuses(desk, " " * 400, NO_LINE)
        self.refuses(desk, " " * 401, NO_LINE)

    def test_an_empty_line_and_blanks_alone(self):
        for line in ["", " ", "  ", " " * 399]:
            with self.subTest(len(line)):
                self.refuses(desk_of(*JOINS), line, NO_LINE)
                self.answers(Desk(), line, NO_LINE)

    def test_other_words(self):
        desk = desk_of(*JOINS)
        for line in ["x", "ann", "5", "-5", "0", "Join dora -5 5", "JOIN dora -5 5", "joins dora -5 5", "joi dora -5 5",
                     "ok", "no line", "moved 7", "give ann bob 1", "Undo", "UNDO", "Book", "Paper", "Close", "closed",
                     "Purse ann", "ann bob dig 5", "5 join dora", "-", "!", "~", "\\", "'close'", '"close"', "close;"]:
            with self.subTest(line):
                self.refuses(desk, line, NO_LINE)

    def test_signs_that_are_no_blanks_ahead_or_behind(self):
        # Behind a deed they are part of its last piece: close is then another word.
        for sign in [sign for sign in OTHER_SIGNS if sign != " "]:
            for line in LINES:
                with self.subTest(sign=sign, line=line):
                    self.refuses(desk_of(*JOINS), sign + line, NO_LINE)
                    self.refuses(desk_of(*JOINS), sign + " " + line, NO_LINE)
                    self.refuses(desk_of(*JOINS), line + " " + sign, BAD if line in DEEDS else NO_LINE)
                    if not (sign.isdigit() and line[-1].isdigit()):
                        self.refuses(desk_of(*JOINS), line + sign, BAD if line in DEEDS and " " in line else NO_LINE)

    def test_signs_that_are_no_blanks_between(self):
        for sign in [sign for sign in OTHER_SIGNS if sign != " "]:
            with self.subTest(sign):
                desk = desk_of(*JOINS)
                self.refuses(desk, sign.join(["leave", "cleo"]), NO_LINE)
                self.refuses(desk, sign.join(["purse", "cleo"]), NO_LINE)
                self.refuses(desk, "offer ann" + sign + "dig 3", BAD)
                self.refuses(desk, "offer " + sign + "ann dig 3", BAD)
