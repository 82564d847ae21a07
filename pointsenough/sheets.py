"""Sheets: texts of forms, webs, tables and marks, and of claims about them."""

from pointsenough.errors import BadForm, BadSheet, NoClaim, NoSheet
from pointsenough.forms import fits_form, fits_name, form_of, form_rule, form_text
from pointsenough.marks import fits_marks, is_marked, marked_loss, worth
from pointsenough.numbers import GREATEST_PRIME, in_bounds, is_prime, share, so_many_numbers
from pointsenough.sums import is_so, is_sum, loss
from pointsenough.tables import fits_table, names_of, spread_at
from pointsenough.texts import ended_lines, need_text, number_in, numbers_in
from pointsenough.webs import KNOTS, LENGTHS, WALKS_OF_TRIANGLE, fits_web, walks_claimed

MOST_NAMES = 8
# The keys that no name is, beside those of forms.
KEYS = (
    "prime", "names", "form", "web", "table", "marks", "claim", "count", "triangles", "walks", "value", "holds", "all",
    "some", "by", "at", "is",
)
# The word of each sort of statement, and the key of a sheet's dict that has what is named so.
SORTS = {"form": "forms", "web": "webs", "table": "tables", "marks": "marks", "claim": "claims"}
PARTS = ("prime", "names", "forms", "webs", "tables", "marks", "claims")
# How many items a claim has, and the key of the dict that has what it is about.
CLAIMS = {
    "count": (3, "forms"), "triangles": (3, "webs"), "walks": (4, "webs"), "value": (4, "tables"),
    "holds": (4, "forms"),
}


def sheet_of(text):
    """The dict of a sheet's text."""
    need_text(text)
    rows, rest = ended_lines(text)
    sheet = {"prime": 0, "names": (), "forms": {}, "webs": {}, "tables": {}, "marks": {}, "claims": {}}
    for index, row in enumerate(rows):
        if not row_read(sheet, index, row.split(" ")):
            raise BadSheet(index)
    if rest != "" or not rows:
        raise BadSheet(len(rows))
    return sheet


def sheet_text(sheet):
    """The text of a sheet, its statements sorted."""
    need_sheet(sheet)
    names = sheet["names"]
    rows = [["prime", str(sheet["prime"])]]
    if names:
        rows.append(["names", *names])
    for name, form in sorted_items(sheet, "forms"):
        rows.append(["form", name, ":", form_text(names, form)])
    for name, (knots, ties) in sorted_items(sheet, "webs"):
        rows.append(["web", name, str(knots), ":"] + [f"{one}-{other}" for one, other in ties])
    for name, table in sorted_items(sheet, "tables"):
        rows.append(["table", name, ":"] + [str(number) for number in table])
    for name, marks in sorted_items(sheet, "marks"):
        rows.append(["marks", name, ":"] + [word for pair in zip(marks, names) for word in pair])
    for name, claim in sorted_items(sheet, "claims"):
        rows.append(["claim", name, ":"] + claim_words(claim))
    return "".join([" ".join(words) + "\n" for words in rows])


def led_claim(sheet, name):
    """What a claim of a sheet is led to: a sum, a claim with marks or a point of a table."""
    need_claim(sheet, name)
    return led_to(sheet, sheet["claims"][name])


def claim_loss(sheet, name):
    """The share of all draws at which a claim of a sheet passes at most if it is wrong."""
    need_claim(sheet, name)
    return led_loss(led_to(sheet, sheet["claims"][name]))


def is_claim_so(sheet, name):
    """Whether any two values are a sheet and the name of a claim of it that is right."""
    if not fits_sheet(sheet) or not fits_claim_name(sheet, name):
        return False
    led = led_to(sheet, sheet["claims"][name])
    if led[0] == "sum":
        return is_so(led[1])
    if led[0] == "marked":
        return worth(led[1]) == led[1][3]
    return spread_at(sheet["prime"], led[1], led[2]) == led[3]


def need_sheet(sheet):
    """Raise NoSheet for any value that is no sheet."""
    if not fits_sheet(sheet):
        raise NoSheet()


def need_claim(sheet, name):
    """Raise NoSheet for any value that is no sheet, then NoClaim for any that is no name of a claim of it."""
    need_sheet(sheet)
    if not fits_claim_name(sheet, name):
        raise NoClaim()


def fits_sheet(sheet):
    """Whether any value is a dict as sheets are read to."""
    if not isinstance(sheet, dict) or len(sheet) != len(PARTS) or not all([part in sheet for part in PARTS]):
        return False
    if not is_prime(sheet["prime"]) or not fits_names(sheet["names"]) or not fits_named(sheet):
        return False
    p, names = sheet["prime"], sheet["names"]
    if not all([fits_form(len(names), form) for form in list(sheet["forms"].values())]):
        return False
    if not all([fits_web(web) for web in list(sheet["webs"].values())]):
        return False
    if not all([fits_table(p, table) for table in list(sheet["tables"].values())]):
        return False
    if not all([fits_marks(marks) and len(marks) == len(names) for marks in list(sheet["marks"].values())]):
        return False
    return all([led_to(sheet, claim) is not None for claim in list(sheet["claims"].values())])


def fits_names(names):
    """Whether any value is a tuple of unlike names, as many as may be at most."""
    if not isinstance(names, tuple) or len(names) > MOST_NAMES or not all([fits_sheet_name(name) for name in names]):
        return False
    return len(set(names)) == len(names)


def fits_named(sheet):
    """Whether a dict has five dicts in which all names are unlike, and unlike the names of forms."""
    parts = [sheet[part] for part in list(SORTS.values())]
    if not all([isinstance(part, dict) for part in parts]):
        return False
    named = [name for part in parts for name in part]
    if not all([fits_sheet_name(name) and name not in sheet["names"] for name in named]):
        return False
    return len(set(named)) == len(named)


def fits_sheet_name(value):
    """Whether any value is a name in sheets."""
    return fits_name(value) and value not in KEYS


def fits_claim_name(sheet, name):
    """Whether any value is the name of a claim of a sheet."""
    return isinstance(name, str) and name in sheet["claims"]


def led_to(sheet, claim):
    """What any value as a claim is led to by a sheet whose other parts are right, None if it is led to nothing."""
    if not isinstance(claim, tuple) or not claim or not isinstance(claim[0], str) or claim[0] not in CLAIMS:
        return None
    many, part = CLAIMS[claim[0]]
    if len(claim) != many or not isinstance(claim[1], str) or not in_bounds(claim[-1], 0, sheet["prime"] - 1):
        return None
    thing = sheet[part].get(claim[1], None)
    if thing is None:
        return None
    if claim[0] == "value":
        fits = so_many_numbers(sheet["prime"], claim[2], names_of(thing))
        return ("point", thing, claim[2], claim[-1]) if fits else None
    if claim[0] == "holds":
        marked = marked_led(sheet, thing, claim)
        return ("marked", marked) if is_marked(marked) else None
    claimed = sum_led(sheet, thing, claim)
    return ("sum", claimed) if is_sum(claimed) else None


def sum_led(sheet, thing, claim):
    """The sum of a claim about the count of something, which may be none; None for walks of no length that fits."""
    word, p, number = claim[0], sheet["prime"], claim[-1]
    if word == "count":
        return p, len(sheet["names"]), form_rule(p, thing), number
    if word == "triangles":
        return walks_claimed(p, thing, 3, WALKS_OF_TRIANGLE * number % p)
    return walks_claimed(p, thing, claim[2], number) if in_bounds(claim[2], LENGTHS[0], LENGTHS[-1]) else None


def marked_led(sheet, form, claim):
    """The claim with marks of a claim that a form holds, which may be none; None for marks that aren't there."""
    _, _, name, number = claim
    if not isinstance(name, str) or name not in sheet["marks"]:
        return None
    return sheet["prime"], sheet["marks"][name], form_rule(sheet["prime"], form), number


def led_loss(led):
    """The share of all draws at which what a claim is led to passes at most if it is wrong."""
    if led[0] == "sum":
        return loss(led[1])
    return marked_loss(led[1]) if led[0] == "marked" else share(0, 1)


def sorted_items(sheet, part):
    """The list of the pairs (name, what is named so) of a part of a sheet, by names ascending."""
    return [(name, sheet[part][name]) for name in sorted(sheet[part])]


def claim_words(claim):
    """The list of the words that tell a claim."""
    word, name, number = claim[0], claim[1], str(claim[-1])
    if word == "walks":
        return [word, name, str(claim[2]), "is", number]
    if word == "value":
        return [word, name, "at"] + [str(item) for item in claim[2]] + ["is", number]
    if word == "holds":
        return [word, name, "by", claim[2], "is", number]
    return [word, name, "is", number]


def row_read(sheet, index, words):
    """Read the words of a row of a text into a sheet; whether the row can stand there."""
    if index == 0:
        return prime_read(sheet, words)
    if words[0] == "names":
        sheet["names"] = tuple(words[1:])
        return index == 1 and len(words) > 1 and fits_names(sheet["names"])
    if words[0] not in SORTS or len(words) < 3 or not is_new_name(sheet, words[1]):
        return False
    told = told_in(sheet, words)
    if told is None:
        return False
    sheet[SORTS[words[0]]][words[1]] = told
    return True


def prime_read(sheet, words):
    """Read the words of a text's first row into a sheet; whether they can stand there."""
    prime = number_in(words[1], GREATEST_PRIME) if words[0] == "prime" and len(words) == 2 else None
    if not is_prime(prime):
        return False
    sheet["prime"] = prime
    return True


def is_new_name(sheet, word):
    """Whether a word is a name that stands for nothing in a sheet yet."""
    if not fits_sheet_name(word) or word in sheet["names"]:
        return False
    return not any([word in sheet[part] for part in list(SORTS.values())])


def told_in(sheet, words):
    """What the words of a statement tell, None if they can tell nothing."""
    if words[0] == "web":
        return web_in(words[2], words[4:]) if words[3:4] == [":"] else None
    if words[2] != ":":
        return None
    if words[0] == "form":
        return form_in(sheet["names"], words[3:])
    if words[0] == "table":
        table = numbers_in(words[3:], sheet["prime"] - 1)
        return table if fits_table(sheet["prime"], table) else None
    if words[0] == "marks":
        return marks_in(sheet["names"], words[3:])
    claim = claim_in(sheet["prime"], words[3:])
    return claim if led_to(sheet, claim) is not None else None


def form_in(names, words):
    """The tree of a form's text, told by its words, None if it is none."""
    try:
        return form_of(names, " ".join(words))
    except BadForm:
        return None


def web_in(knots, words):
    """The web of words for its knots and its ties, None if they tell none."""
    ties = [numbers_in(word.split("-"), KNOTS[-1]) for word in words]
    web = (number_in(knots, KNOTS[-1]), tuple(ties))
    return web if fits_web(web) else None


def marks_in(names, words):
    """The tuple of the marks of words that tell a mark and a name by turns, None if they tell none."""
    marks = tuple(words[::2])
    if tuple(words[1::2]) != names or len(marks) != len(names) or not fits_marks(marks):
        return None
    return marks


def claim_in(p, words):
    """The claim that words tell, None if they tell none; what they name may not be there."""
    if len(words) < 2 or words[-2] != "is":
        return None
    number = number_in(words[-1], p - 1)
    match words[:-2]:
        case ["count", name]:
            return "count", name, number
        case ["triangles", name]:
            return "triangles", name, number
        case ["walks", name, length]:
            return "walks", name, number_in(length, LENGTHS[-1]), number
        case ["value", name, "at", *place]:
            return "value", name, numbers_in(place, p - 1), number
        case ["holds", name, "by", marks]:
            return "holds", name, marks, number
    return None
