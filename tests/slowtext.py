"""Which row of a text can't stand first, by the document's words written as patterns."""

import re

SORTS = ["colour", "wash", "kind", "team", "pot", "slots"]
MOST = {"colour": 12, "wash": 60, "kind": 20, "team": 10, "pot": 8}
# N is a NAME, C a NAME or the sign *, W hours or never, and a pair of numbers the bounds of a number.
BOOK = {
    "colour": "N 1-20 0-99 1-999", "wash": "N N W", "kind": "N 1-9 1-99", "team": "N 1-9", "pot": "N", "slots": "0-60",
}
DEEDS = ["fill N N", "wash N 0-999", "empty N", "gather N N N 1-999", "break N", "new N 0-999"]
FAR = f"0-{10 ** 9}"
ASKS = (["strike " + FAR, "undo", "state N 0-9999", "glass N 0-9999", "pieces 0-9999", "voids 0-9999", "tunnel 0-9999",
         "sums C 0-9999", "lacking 0-9999 N C " + FAR] + [f"right {FAR} 0-9999 {deed}" for deed in DEEDS])


def fits_word(form, word):
    if form == "N":
        return re.fullmatch("[a-z]{1,8}", word) is not None
    if form == "C":
        return word == "*" or fits_word("N", word)
    if form == "W":
        return word == "never" or fits_word("0-99", word)
    if "-" not in form:
        return word == form
    low, high = form.split("-")
    return re.fullmatch("0|[1-9][0-9]{0,30}", word) is not None and int(low) <= int(word) <= int(high)


def fits(form, row):
    words, forms = row.split(" "), form.split(" ")
    return len(words) == len(forms) and all(fits_word(own, word) for own, word in zip(forms, words))


def first_bad(text, desk=False):
    """None, or the number of the first row that can't stand."""
    rows = text.split("\n")
    seen = {sort: [] for sort in SORTS}
    entered = 0
    for number, row in enumerate(rows):
        words = row.split(" ")
        if seen["slots"]:
            if words[0] == "at":
                entered += 1
                right = entered <= 120 and any(fits("at 0-9999 " + deed, row) for deed in DEEDS)
            elif words[0] == "washing":
                colours = [own[0] for own in seen["colour"]]
                right = desk and len(words) in range(2, 9) and all(word in colours for word in words[1:])
            else:
                right = desk and any(fits(form, row) for form in ASKS)
        else:
            right = begins(seen, words[0], row)
        if not right:
            return number
        if words[0] in SORTS:
            seen[words[0]].append(words[1:])
    return None if seen["slots"] else len(rows)


def begins(seen, sort, row):
    """Whether a row can stand up to that of slots, behind those seen."""
    if sort not in SORTS or not fits(sort + " " + BOOK[sort], row):
        return False
    words = row.split(" ")[1:]
    if any(seen[other] for other in SORTS[SORTS.index(sort) + 1:]):
        return False
    if sort != "colour" and not seen["colour"]:
        return False
    if sort not in ("colour", "wash", "kind") and not seen["kind"]:
        return False
    if sort == "slots":
        return True
    if len(seen[sort]) >= MOST[sort]:
        return False
    many = 2 if sort == "wash" else 1
    if sort == "wash":
        colours = [own[0] for own in seen["colour"]]
        if words[0] == words[1] or words[0] not in colours or words[1] not in colours:
            return False
    return not seen[sort] or seen[sort][-1][:many] < words[:many]


SIGNS = ["0", "00", "01", "-1", "+1", "1", "9", "10", "20", "21", "60", "61", "99", "100", "120", "999", "1000", "9999",
         "10000", "1000000000", "1000000001", "9" * 60, "1.0", "", "*", "-", "never", "Never", "amber", "north", "ann", "cup",
         "a", "z", "abcdefgh", "abcdefghi", "Amber", "a1", "\t", "colour", "slots", "at", "fill", "wash", "undo", "True"]


def bent_text(rng, text):
    """The text with one row or word changed for another, dropped, doubled or moved."""
    rows = text.split("\n")
    at = rng.randrange(len(rows))
    way = rng.randrange(9)
    if way == 0 and len(rows) > 1:
        del rows[at]
    elif way == 1:
        rows.insert(at, rows[at])
    elif way == 2:
        other = rng.randrange(len(rows))
        rows[at], rows[other] = rows[other], rows[at]
    elif way == 3:
        rows.insert(rng.randrange(len(rows) + 1), rng.choice(["", " ", "pot", "slots 3", "undo", "kind zz 1 1"]))
    elif way == 4:
        rows[at] = rng.choice([" " + rows[at], rows[at] + " ", rows[at].replace(" ", "  ", 1), rows[at] + "\r",
                               rows[at].upper(), rows[at].replace(" ", "\t", 1)])
    else:
        words = rows[at].split(" ")
        place = rng.randrange(len(words))
        if way == 5:
            del words[place]
        elif way == 6:
            words.insert(place, rng.choice(SIGNS))
        else:
            words[place] = rng.choice(SIGNS)
        rows[at] = " ".join(words)
    return "\n".join(rows)
