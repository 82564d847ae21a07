"""Sheets for the tests of sheets, desks and of the whole program, and what is right in them, plainly reckoned."""

from pointsenough.forms import form_rule, form_text
from tests.support import bits, bits_rows, form_for, numbers_for, plain_degrees, plain_form, plain_rule, plain_spread
from tests.test_marks import plain_worth
from tests.test_webs import plain_triangles, plain_walks, web_for

SHEET = """prime 101
names a b c
form f : a or (b and not c)
form g : a xor b
web w 4 : 0-1 0-2 1-2 2-3
web one 1 :
table t : 1 2 3 4
table u : 7
marks m : all a some b some c
claim ca : count f is 5
claim cb : triangles w is 1
claim cc : walks w 2 is 8
claim cd : value t at 5 6 is 17
claim ce : holds g by m is 1
claim cf : walks one 3 is 0
claim cg : value u at is 7
"""
# Which of these claims have rounds: all others are closed at once.
WITH_ROUNDS = ("ca", "cb", "cc", "ce")
WRONGED = SHEET.replace("is 5", "is 6").replace("cb : triangles w is 1", "cb : triangles w is 2").replace("is 8", "is 9").replace(
    "is 17", "is 18").replace("by m is 1", "by m is 0").replace("one 3 is 0", "one 3 is 1").replace("at is 7", "at is 8")


def sheet_for(seed):
    """A sheet's dict that looks drawn."""
    p = (5, 7, 11, 101, 10007, 2 ** 31 - 1)[seed % 6]
    many = seed % 9
    sheet = {"prime": p, "names": tuple("abcdefgh"[:many]), "forms": {}, "webs": {}, "tables": {}, "marks": {}, "claims": {}}
    for at in range(3):
        form = form_for(many, seed * 3 + at, 1 + (seed + at) % 3)
        if max(plain_degrees(many, form_rule(p, form)), default=0) <= 30:
            sheet["forms"]["form" + "xyz"[at]] = form
    sheet["webs"] = {"webone": (1, ()), "webtwo": web_for(2, seed), "web" + "xyz"[seed % 3]: web_for((4, 8)[seed % 2], seed)}
    for at in range(3):
        sheet["tables"]["t" + "xyz"[at]] = numbers_for(p, seed + at, 2 ** ((seed + at * 2) % 5))
    if many <= 6:
        for at in range(2):
            row = numbers_for(2, seed * 7 + at, many)
            sheet["marks"]["m" + "xy"[at]] = tuple(("all", "some")[mark] for mark in row)
    sheet["claims"] = claims_for(sheet, seed)
    return sheet


def claims_for(sheet, seed):
    """Claims that look drawn, some right and some wrong."""
    p = sheet["prime"]
    told = []
    for name in sheet["forms"]:
        told.append(("count", name))
        told += [("holds", name, marks) for marks in sheet["marks"]]
    for name in sheet["webs"]:
        told += [("triangles", name), ("walks", name, 2), ("walks", name, 3)]
    for at, name in enumerate(sheet["tables"]):
        told.append(("value", name, numbers_for(p, seed + at, bits(len(sheet["tables"][name])))))
    claims = {}
    for at, claim in enumerate(told):
        number = (true_number(sheet, claim) + (0 if (seed + at) % 3 else 1 + at)) % p
        claims["c" + "abcdefghijklmnopqrstuvwxyz"[at]] = (*claim, number)
    return claims


def true_number(sheet, claim):
    """What a claim must tell, by p, its own number left out."""
    p, many = sheet["prime"], len(sheet["names"])
    if claim[0] == "count":
        return sum(plain_form(sheet["forms"][claim[1]], row) for row in bits_rows(many)) % p
    if claim[0] == "triangles":
        return plain_triangles(sheet["webs"][claim[1]]) % p
    if claim[0] == "walks":
        return plain_walks(sheet["webs"][claim[1]], claim[2]) % p
    if claim[0] == "value":
        return plain_spread(p, sheet["tables"][claim[1]], claim[2])
    return plain_worth(p, sheet["marks"][claim[2]], form_rule(p, sheet["forms"][claim[1]]))


def claim_text(claim):
    word, name, number = claim[0], claim[1], claim[-1]
    between = {"walks": lambda: f" {claim[2]}", "holds": lambda: f" by {claim[2]}",
               "value": lambda: " at" + "".join(f" {item}" for item in claim[2])}.get(word, lambda: "")()
    return f"{word} {name}{between} is {number}"


def statements(sheet):
    """The lines of a sheet behind its names: pairs of the sort and the line."""
    names = sheet["names"]
    told = [("forms", f"form {name} : {form_text(names, form)}") for name, form in sorted(sheet["forms"].items())]
    for name, (knots, ties) in sorted(sheet["webs"].items()):
        told.append(("webs", f"web {name} {knots} :" + "".join(f" {a}-{b}" for a, b in ties)))
    for name, table in sorted(sheet["tables"].items()):
        told.append(("tables", f"table {name} :" + "".join(f" {number}" for number in table)))
    for name, marks in sorted(sheet["marks"].items()):
        told.append(("marks", f"marks {name} :" + "".join(f" {mark} {letter}" for mark, letter in zip(marks, names))))
    return told + [("claims", f"claim {name} : {claim_text(claim)}") for name, claim in sorted(sheet["claims"].items())]


def head_of(sheet):
    names = "names " + " ".join(sheet["names"]) + "\n" if sheet["names"] else ""
    return f"prime {sheet['prime']}\n" + names


def plain_sheet_text(sheet):
    return head_of(sheet) + "".join(line + "\n" for _, line in statements(sheet))
