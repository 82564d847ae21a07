"""Points [1] and [18]: talks."""

import unittest
from itertools import product

from pointsenough.answerers import lines_of
from pointsenough.errors import BadDraws, BadLines, BadPrime, BadSum, BadTalk, NotText
from pointsenough.sums import claims, judged
from pointsenough.talks import heard, read_talk, write_talk
from tests.support import (
    BIG, HUGE, NUMBER, PointCase, any_values, bad_tuples, line_for, numbers_for, plain_rows_sum, rule_for, wrong_draws,
    wrong_lines, wrong_numbers, wrong_primes, wrong_sums, wrong_texts,
)

RULE = ("times", ("name", 0), ("plus", ("name", 0), ("table", (1, 2), (("name", 1),))))
GOOD, BAD = (7, 2, RULE, 5), (7, 2, RULE, 6)
LINES = ((0, 3, 2), (5, 3))
TALK = "line 0 3 2\ndraw 3\nline 5 3\ndraw 4\n"

# Words behind "line" or "draw" that are no numbers by 7.
NO_NUMBERS = (
    "7", "8", "10", "-1", "-0", "+1", "01", "00", "007", "1.0", "1_0", "0x1", "a", "one", "1e0", "1,", ",", "(1)", "1\t",
    "\t1", "\r", "1\r", "\u0661", "\u00b2", "\uff11", "9" * 400, "1" * 5000, "True", "None", "'1'", "1;", "#", "1-", "\x00",
)


def plain_talk(lines, draws):
    told = ""
    for k, line in enumerate(lines):
        told += "line" + "".join(" " + str(number) for number in line) + "\n"
        if k < len(draws):
            told += "draw " + str(draws[k]) + "\n"
    return told


class ExamplesTest(PointCase):
    def test_writing_and_reading(self):
        self.tells("line 0 3 2\ndraw 3\nline 5 3\n", write_talk, 7, LINES, (3,))
        self.tells((((0, 3, 2),), (3,)), read_talk, 7, "line 0 3 2\ndraw 3\n")

    def test_heard(self):
        self.tells(("open", 1, 6), heard, GOOD, "line 0 3 2\ndraw 3\n")
        self.tells(("caught", 0, "halves"), heard, BAD, "line 0 3 2\n")
        self.tells(("open", 0, 5), heard, GOOD, "")


class WriteTest(PointCase):
    def test_drawn_ones(self):
        for p in (5, 7, BIG):
            for many in range(8):
                lines = tuple(line_for(p, many + k, (3 * k + many) % 5) for k in range(many))
                for fewer in (0, 1):
                    if many >= fewer:
                        draws = numbers_for(p, many, many - fewer)
                        text = plain_talk(lines, draws)
                        self.tells(text, write_talk, p, lines, draws)
                        self.tells((lines, draws), read_talk, p, text)

    def test_edges(self):
        self.tells("", write_talk, 7, (), ())
        self.tells("line\n", write_talk, 7, ((),), ())
        self.tells("line\ndraw 0\nline\n", write_talk, 7, ((), ()), (0,))
        self.tells("line 6\ndraw 6\n", write_talk, 7, ((6,),), (6,))
        self.tells("line 2147483646\ndraw 0\n", write_talk, BIG, ((BIG - 1,),), (0,))
        long = (1,) * 200
        self.tells(plain_talk((long,) * 300, (2,) * 300), write_talk, 7, (long,) * 300, (2,) * 300)

    def test_wrong_lines(self):
        for p in (5, 7, BIG):
            for wrong in wrong_lines(p):
                for lines in ((wrong,), ((1,), wrong), (wrong, (1,), (1,))):
                    self.fails(BadLines, {}, write_talk, p, lines, (1,) * len(lines))
        bad = [value for value in bad_tuples() if value not in (((),), ((1,),))]
        for wrong in any_values() + bad + [0, 1, HUGE, [(1,)], [(1,), (2,)], {0: (1,)}, "line 1\n"]:
            self.fails(BadLines, {}, write_talk, 7, wrong, ())
        self.fails(BadLines, {}, write_talk, 5, ((5,),), ())

    def test_wrong_draws(self):
        for many in range(5):
            lines = ((1,),) * many
            for draws in wrong_draws(7, many):
                if not (isinstance(draws, tuple) and draws == (1,) * (many - 1)):
                    self.fails(BadDraws, {}, write_talk, 7, lines, draws)
            if many > 1:
                for number in wrong_numbers(7):
                    self.fails(BadDraws, {}, write_talk, 7, lines, (1,) * (many - 2) + (number,))

    def test_how_many_draws(self):
        for many in range(6):
            for drawn in range(9):
                if drawn not in (many, many - 1):
                    self.fails(BadDraws, {}, write_talk, 7, ((1,),) * many, (1,) * drawn)

    def test_wrong_primes(self):
        for p in wrong_primes():
            self.fails(BadPrime, {}, write_talk, p, ((1,),), (1,))
            self.fails(BadPrime, {}, read_talk, p, "line 1\n")


class ReadTest(PointCase):
    def test_talks_that_end_early_and_late(self):
        rows = TALK.split("\n")[:-1]
        for many in range(5):
            text = "".join(row + "\n" for row in rows[:many])
            self.tells((LINES[:(many + 1) // 2], (3, 4)[:many // 2]), read_talk, 7, text)
        self.tells(((), ()), read_talk, 7, "")
        self.tells((((),), ()), read_talk, 7, "line\n")
        self.tells((((), ()), (0,)), read_talk, 7, "line\ndraw 0\nline\n")
        many = 1000
        self.tells((((1,),) * many, (2,) * many), read_talk, 7, "line 1\ndraw 2\n" * many)

    def test_line_ends(self):
        rows = TALK.split("\n")[:-1]
        for many in range(4):
            ahead = "".join(row + "\n" for row in rows[:many])
            for rest in (rows[many], rows[many][:2], " ", "x", "\r", "\x0b", "1", "line", "draw"):
                self.fails(BadTalk, {"at": many}, read_talk, 7, ahead + rest)
        self.fails(BadTalk, {"at": 4}, read_talk, 7, TALK + " ")
        for end in ("\r\n", "\r", "\x0b\n", "\x0c", "\x85", "\u2028"):
            self.fails(BadTalk, {"at": 0}, read_talk, 7, "line 0 3 2" + end)
        self.fails(BadTalk, {"at": 1}, read_talk, 7, "line 0 3 2\ndraw 3\r\n")

    def test_empty_rows(self):
        self.fails(BadTalk, {"at": 0}, read_talk, 7, "\n")
        self.fails(BadTalk, {"at": 0}, read_talk, 7, "\n" + TALK)
        self.fails(BadTalk, {"at": 1}, read_talk, 7, "line 0 3 2\n\ndraw 3\n")
        self.fails(BadTalk, {"at": 4}, read_talk, 7, TALK + "\n")

    def test_by_turns(self):
        self.fails(BadTalk, {"at": 0}, read_talk, 7, "draw 3\n")
        self.fails(BadTalk, {"at": 1}, read_talk, 7, "line 1\nline 1\n")
        self.fails(BadTalk, {"at": 2}, read_talk, 7, "line 1\ndraw 1\ndraw 1\n")
        self.fails(BadTalk, {"at": 3}, read_talk, 7, "line 1\ndraw 1\nline 1\nline 1\ndraw 1\n")

    def test_words(self):
        for word in ("Line", "LINE", "lines", "lin", "", " line", "line:", "draw", "\tline", "plain", "line\t", "li ne"):
            self.fails(BadTalk, {"at": 0}, read_talk, 7, word + " 1\n")
        for word in ("Draw", "DRAW", "draws", "dra", "", " draw", "draw:", "line", "\tdraw", "draw\t"):
            self.fails(BadTalk, {"at": 1}, read_talk, 7, "line 1\n" + word + " 1\n")
        self.fails(BadTalk, {"at": 0}, read_talk, 7, "line1\n")
        self.fails(BadTalk, {"at": 1}, read_talk, 7, "line 1\ndraw1\n")

    def test_blanks(self):
        for row in ("line ", "line  1", " line 1", "line 1 ", "line 1  2", "line\t1", "line 1\t2", "line  ", "line 0 1 "):
            self.fails(BadTalk, {"at": 0}, read_talk, 7, row + "\n")
        for row in ("draw  1", " draw 1", "draw 1 ", "draw\t1", "draw ", "draw  "):
            self.fails(BadTalk, {"at": 1}, read_talk, 7, "line 1\n" + row + "\n")

    def test_numbers(self):
        for word in NO_NUMBERS:
            for row in ("line " + word, "line 1 " + word, "line " + word + " 1", "line 1 2 " + word + " 3"):
                self.fails(BadTalk, {"at": 0}, read_talk, 7, row + "\n")
            self.fails(BadTalk, {"at": 1}, read_talk, 7, "line 1\ndraw " + word + "\n")
            self.fails(BadTalk, {"at": 2}, read_talk, 7, "line 1\ndraw 1\nline " + word + "\ndraw 1\n")

    def test_how_many_numbers(self):
        for row in ("draw", "draw 1 2", "draw 1 1", "draw 1 2 3"):
            self.fails(BadTalk, {"at": 1}, read_talk, 7, "line 1\n" + row + "\n")
        longest = (1,) * 200
        self.tells(((longest,), ()), read_talk, 7, plain_talk((longest,), ()))
        self.fails(BadTalk, {"at": 0}, read_talk, 7, plain_talk((longest + (1,),), ()))

    def test_lines_end_in_another_number_than_nought(self):
        for row in ("line 0", "line 1 0", "line 0 0", "line 1 2 0"):
            self.fails(BadTalk, {"at": 0}, read_talk, 7, row + "\n")
            self.fails(BadTalk, {"at": 2}, read_talk, 7, "line 1\ndraw 0\n" + row + "\n")

    def test_the_prime_matters(self):
        self.fails(BadTalk, {"at": 0}, read_talk, 5, "line 5\n")
        self.tells((((5,),), ()), read_talk, 7, "line 5\n")
        self.fails(BadTalk, {"at": 1}, read_talk, 5, "line 4\ndraw 5\n")
        self.tells((((BIG - 1,),), (BIG - 1,)), read_talk, BIG, "line 2147483646\ndraw 2147483646\n")
        self.fails(BadTalk, {"at": 0}, read_talk, BIG, "line 2147483647\n")
        self.fails(BadTalk, {"at": 0}, read_talk, BIG, "line 02147483646\n")

    def test_needless_zeros(self):
        for p in (11, 101, BIG):
            for word in ("01", "00", "001", "000", "010", "0000000001", "-1", "+1", "-0"):
                self.fails(BadTalk, {"at": 0}, read_talk, p, "line " + word + " 1\n")
                self.fails(BadTalk, {"at": 0}, read_talk, p, "line 1 " + word + "\n")
                self.fails(BadTalk, {"at": 1}, read_talk, p, "line 1\ndraw " + word + "\n")
            self.tells((((0, 10),), (0,)), read_talk, p, "line 0 10\ndraw 0\n")

    def test_the_first_one_is_told(self):
        self.fails(BadTalk, {"at": 1}, read_talk, 7, "line 1\ndraw x\nline x\nx")
        self.fails(BadTalk, {"at": 0}, read_talk, 7, "line 0\nrest")

    def test_no_texts(self):
        for value in wrong_texts():
            self.fails(NotText, {}, read_talk, 7, value)
            self.fails(NotText, {}, heard, GOOD, value)


class HeardTest(PointCase):
    def test_all_draws_are_as_judged(self):
        for lines in (LINES, ((0, 5, 1), (5,)), ((0, 3, 2), (1, 1)), ((0, 0, 0, 1), (1,)), ((), ()), LINES + ((1,),)):
            for draws in ((3, 4), (3, 0), (0, 0)):
                for claimed in (GOOD, BAD):
                    self.tells(judged(claimed, lines, draws), heard, claimed, plain_talk(lines, draws))

    def test_open_ones(self):
        for claimed in (GOOD, BAD):
            for draws in product(range(7), repeat=2):
                lines = lines_of(claimed, ("best",), draws)
                told = claims(claimed, lines, draws)
                for drawn in range(2):
                    state = ("open", drawn, told[drawn])
                    self.assertEqual(heard(claimed, plain_talk(lines[:drawn], draws[:drawn])), state)
                    self.assertEqual(heard(claimed, plain_talk(lines[:drawn + 1], draws[:drawn])), state)

    def test_drawn_ones(self):
        for p in (5, BIG):
            for many in range(6):
                for seed in range(3):
                    rule = rule_for(p, many, seed, 3)
                    right = plain_rows_sum(p, many, rule, ())
                    draws = numbers_for(p, seed, many)
                    for claim in (right, (right + 1) % p):
                        claimed = (p, many, rule, claim)
                        lines = lines_of(claimed, ("best",), draws)
                        told = claims(claimed, lines, draws)
                        for drawn in range(many):
                            text = plain_talk(lines[:drawn + 1], draws[:drawn])
                            self.tells(("open", drawn, told[drawn]), heard, claimed, text)
                        self.tells(judged(claimed, lines, draws), heard, claimed, plain_talk(lines, draws))

    def test_wrong_lines_that_are_there(self):
        self.tells(("caught", 0, "halves"), heard, GOOD, "line 0 3 1\n")
        self.tells(("caught", 0, "halves"), heard, GOOD, "line 0 3 1\ndraw 3\n")
        self.tells(("caught", 0, "halves"), heard, GOOD, "line 0 3 1\ndraw 3\nline 5 3\n")
        self.tells(("caught", 0, "degree"), heard, GOOD, "line 0 3 1 1\n")
        self.tells(("caught", 0, "degree"), heard, GOOD, "line 0 3 1 1\ndraw 3\n")
        self.tells(("caught", 1, "halves"), heard, GOOD, "line 0 3 2\ndraw 3\nline\n")
        self.tells(("caught", 1, "degree"), heard, GOOD, "line 0 3 2\ndraw 3\nline 5 2 1\n")
        self.tells(("caught", 0, "halves"), heard, BAD, "line 0 3 2\ndraw 3\nline 5 2 1\n")
        self.tells(("caught", 0, "halves"), heard, (7, 3, NUMBER, 1), "line 1\ndraw 3\nline 4\ndraw 1\n")

    def test_a_line_ahead_of_its_draw_leaves_the_claim_so_far(self):
        self.tells(("open", 0, 5), heard, GOOD, "line 0 3 2\n")
        self.tells(("open", 1, 6), heard, GOOD, "line 0 3 2\ndraw 3\nline 5 3\n")

    def test_passed_and_caught_at_the_end(self):
        self.tells(("passed",), heard, GOOD, TALK)
        self.tells(("caught", 2, "line"), heard, GOOD, TALK + "line\n")
        self.tells(("caught", 2, "end"), heard, BAD, "line 0 5 1\ndraw 3\nline 5\ndraw 4\n")
        self.tells(("passed",), heard, BAD, "line 0 5 1\ndraw 3\nline 5\ndraw 0\n")

    def test_no_names(self):
        self.tells(("passed",), heard, (7, 0, NUMBER, 1), "")
        self.tells(("caught", 0, "end"), heard, (7, 0, NUMBER, 2), "")
        self.tells(("caught", 0, "line"), heard, (7, 0, NUMBER, 1), "line 1\n")
        self.tells(("caught", 0, "line"), heard, (7, 0, NUMBER, 2), "line\n")
        self.fails(BadDraws, {}, heard, (7, 0, NUMBER, 1), "line 1\ndraw 1\n")

    def test_more_draws_than_names(self):
        for more in ("line 1\ndraw 1\n", "line 1\ndraw 1\nline\n", "line 1\ndraw 1\nline 1\ndraw 2\n"):
            self.fails(BadDraws, {}, heard, GOOD, TALK + more)
            self.fails(BadDraws, {}, heard, BAD, TALK + more)
        self.fails(BadDraws, {}, heard, (7, 1, NUMBER, 2), TALK)
        self.fails(BadTalk, {"at": 6}, heard, GOOD, TALK + "line 1\ndraw 1\nline 7\n")
        self.fails(BadTalk, {"at": 6}, heard, GOOD, TALK + "line 1\ndraw 1\nline")

    def test_talks_that_cannot_stand(self):
        self.fails(BadTalk, {"at": 0}, heard, GOOD, "line 7\n")
        self.fails(BadTalk, {"at": 1}, heard, GOOD, "line 0 3 1\ndraw 7\n")
        self.fails(BadTalk, {"at": 1}, heard, GOOD, "line 0 3 1\ndraw 3")
        self.tells(("open", 0, 5), heard, (11, 1, NUMBER, 5), "")
        self.tells(("caught", 0, "degree"), heard, (11, 1, NUMBER, 5), "line 0 7\n")

    def test_no_sums(self):
        for wrong in wrong_sums():
            for text in ("", TALK, None):
                self.fails(BadSum, {}, heard, wrong, text)


if __name__ == "__main__":
    unittest.main()
