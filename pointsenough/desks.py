"""The desk: all claims of a sheet, judged round by round as lines are told."""

from pointsenough.errors import Closed, NoClaim, NothingDone
from pointsenough.lines import fits_line, value_at
from pointsenough.marks import marked_line, round_word, rounds_in, value_drawn
from pointsenough.numbers import need_number, share
from pointsenough.rules import told_degrees, values_behind
from pointsenough.sheets import led_loss, led_to, need_sheet
from pointsenough.sums import plain_behind, wrong_word
from pointsenough.tables import spread_at
from pointsenough.talks import talk_text


class Desk:
    """The claims of a sheet, and how each of them stands."""

    def __init__(self, sheet):
        need_sheet(sheet)
        self.p = sheet["prime"]
        self.led = {name: led_to(sheet, claim) for name, claim in sheet["claims"].items()}
        # For each claim: its state, the lines heard that are lines, the numbers drawn.
        self.records = {name: (first_state(self.p, led), (), ()) for name, led in self.led.items()}
        # For each deed that is not taken back: its claim and the record that the claim had ahead of it.
        self.deeds = []

    def state(self, name):
        """How a claim stands: ("open", round, claim so far), ("passed",) or ("caught", round, word)."""
        self.need_claim(name)
        return self.records[name][0]

    def hear(self, name, line, draw):
        """Judge any value as a line of an open claim's round; how the claim stands then."""
        self.need_open(name)
        need_number(self.p, draw)
        return self.judge(name, line, draw)

    def answer(self, name, draw):
        """Judge the plain line in an open claim's round; how the claim stands then."""
        self.need_open(name)
        need_number(self.p, draw)
        return self.judge(name, plain_told(self.led[name], self.records[name][2]), draw)

    def loss(self):
        """The share of all draws at which wrong claims pass at most, of those that are not caught."""
        kept = 1
        everything = 1
        for name, led in self.led.items():
            if self.records[name][0][0] != "caught":
                top, bottom = led_loss(led)
                kept *= bottom - top
                everything *= bottom
        return share(everything - kept, everything)

    def asked(self):
        """The pair (numbers heard in lines that are lines, numbers drawn) so far."""
        heard = 0
        drawn = 0
        for _, lines, draws in self.records.values():
            heard += sum([len(line) for line in lines])
            drawn += len(draws)
        return heard, drawn

    def undo(self):
        """Take back the last deed that is not taken back yet."""
        if not self.deeds:
            raise NothingDone()
        name, record = self.deeds.pop()
        self.records[name] = record

    def talk(self, name):
        """The text of a claim's rounds so far."""
        self.need_claim(name)
        _, lines, draws = self.records[name]
        return talk_text(lines, draws)

    def open_names(self):
        """The ascending tuple of the names of the open claims."""
        return tuple([name for name in sorted(self.records) if self.records[name][0][0] == "open"])

    def need_claim(self, name):
        """Raise NoClaim for any value that is no name of a claim."""
        if not isinstance(name, str) or name not in self.records:
            raise NoClaim()

    def need_open(self, name):
        """Raise NoClaim for any value that is no name of a claim, then Closed for a claim that is not open."""
        self.need_claim(name)
        if self.records[name][0][0] != "open":
            raise Closed()

    def judge(self, name, line, draw):
        """Judge any value as the line of an open claim's round; how the claim stands then."""
        record = self.records[name]
        self.deeds.append((name, record))
        self.records[name] = record_behind(self.p, self.led[name], record, line, draw)
        return self.records[name][0]


def first_state(p, led):
    """How a claim stands at first."""
    return state_behind(p, led, (), led[3] if led[0] == "point" else led[1][3])


def record_behind(p, led, record, line, draw):
    """The record of an open claim behind any value that is told as a line, and the number drawn behind it."""
    (_, done, so_far), lines, draws = record
    word = heard_word(p, led, draws, line, so_far)
    if fits_line(p, line):
        lines = (*lines, line)
    if word != "":
        return ("caught", done, word), lines, draws
    draws = (*draws, draw)
    return state_behind(p, led, draws, value_at(p, line, draw)), lines, draws


def state_behind(p, led, draws, so_far):
    """How a claim stands behind draws with nothing wrong so far, its end being judged if these are all."""
    if len(draws) < rounds_wanted(led):
        return "open", len(draws), so_far
    return ("passed",) if end_value(p, led, draws) == so_far else ("caught", len(draws), "end")


def rounds_wanted(led):
    """How many rounds what a claim is led to has."""
    if led[0] == "point":
        return 0
    return led[1][1] if led[0] == "sum" else len(rounds_in(led[1]))


def end_value(p, led, draws):
    """What the claim so far must be behind all draws."""
    if led[0] == "point":
        return spread_at(p, led[1], led[2])
    rule = led[1][2]
    if led[0] == "sum":
        return values_behind(p, rule, draws, 0)[0]
    return value_drawn(p, rule, rounds_in(led[1]), draws)


def heard_word(p, led, draws, line, so_far):
    """The word for what is wrong with any value told as the line of the round behind draws, "" if nothing is."""
    if led[0] == "marked":
        return round_word(p, rounds_in(led[1]), draws, line, so_far)
    _, many, rule, _ = led[1]
    return wrong_word(p, line, told_degrees(many, rule)[len(draws)], so_far)


def plain_told(led, draws):
    """The plain line of the round behind draws."""
    return plain_behind(led[1], draws) if led[0] == "sum" else marked_line(led[1], draws)
