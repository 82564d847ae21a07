"""Talks: texts of lines told and numbers drawn, by turns."""

from pointsenough.errors import BadDraws, BadLines, BadTalk
from pointsenough.lines import fits_line
from pointsenough.numbers import all_numbers, need_prime
from pointsenough.rules import told_degrees
from pointsenough.sums import judged, need_sum, rounds_heard, wrong_word
from pointsenough.texts import ended_lines, need_text, numbers_in


def write_talk(p, lines, draws):
    """The text of lines and the draws behind them."""
    need_prime(p)
    if not isinstance(lines, tuple) or not all([fits_line(p, line) for line in lines]):
        raise BadLines()
    if not all_numbers(p, draws, len(lines)) or len(draws) < len(lines) - 1:
        raise BadDraws()
    return talk_text(lines, draws)


def read_talk(p, text):
    """The pair (lines, draws) of a talk."""
    need_prime(p)
    need_text(text)
    return talk_read(p, text)


def heard(claimed, text):
    """How a talk stands for a sum: as the judge tells it, or ("open", round, claim so far)."""
    need_sum(claimed)
    need_text(text)
    p, many, rule, _ = claimed
    lines, draws = talk_read(p, text)
    if len(draws) > many:
        raise BadDraws()
    if len(draws) == many:
        return judged(claimed, lines, draws)
    told, word = rounds_heard(claimed, lines, draws)
    if word == "" and len(lines) > len(draws):
        word = wrong_word(p, lines[-1], told_degrees(many, rule)[len(draws)], told[-1])
    if word != "":
        return "caught", len(told) - 1, word
    return "open", len(draws), told[-1]


def talk_text(lines, draws):
    """The text of lines and the draws behind them, nothing being checked."""
    rows = []
    for index, line in enumerate(lines):
        rows.append(row_text("line", line))
        if index < len(draws):
            rows.append(row_text("draw", (draws[index],)))
    return "".join(rows)


def row_text(word, numbers):
    """The text of a line with a word and numbers."""
    return " ".join([word] + [str(number) for number in numbers]) + "\n"


def talk_read(p, text):
    """The pair (lines, draws) of any text, p being right."""
    rows, rest = ended_lines(text)
    lines = []
    draws = []
    for index, row in enumerate(rows):
        words = row.split(" ")
        numbers = numbers_in(words[1:], p - 1)
        if index % 2 == 0 and words[0] == "line" and fits_line(p, numbers):
            lines.append(numbers)
        elif index % 2 == 1 and words[0] == "draw" and numbers is not None and len(numbers) == 1:
            draws.append(numbers[0])
        else:
            raise BadTalk(index)
    if rest != "":
        raise BadTalk(len(rows))
    return tuple(lines), tuple(draws)
