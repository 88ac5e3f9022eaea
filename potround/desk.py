"""A desk at which a book's text is read, told further, and asked about."""

from potround.accounts import Account
from potround.deeds import is_deed
from potround.errors import BadRow, NoSuch
from potround.ordering import least_washing
from potround.palettes import colour_names
from potround.reading import begun, enter_row, is_entry, rows_of
from potround.shapes import are_parts

# What stands behind the word of each row but those of at, right and washing.
PARTS = {
    "strike": ("number",),
    "undo": (),
    "state": ("name", "hour"),
    "glass": ("name", "hour"),
    "sums": ("shade", "hour"),
    "pieces": ("hour",),
    "voids": ("hour",),
    "tunnel": ("hour",),
    "lacking": ("hour", "name", "shade", "number"),
}


def run(text):
    """The list of answers to a text's rows."""
    rows = rows_of(text)
    book, behind = begun(rows)
    check_rows(book.palette, rows, behind)
    answers = []
    for row in rows[behind:]:
        if row[0] == "at":
            enter_row(book, row)
        else:
            answers.append(answer(book, row))
    return answers


def check_rows(palette, rows, behind):
    """Refuses the first row, behind that of slots, that can't stand."""
    entered = 0
    for number in range(behind, len(rows)):
        if is_entry(rows[number], entered):
            entered += 1
        elif not is_answered(palette, rows[number]):
            raise BadRow(number)


def is_answered(palette, row):
    """Whether a row that has an answer is so written, within its bounds."""
    word, parts = row[0], row[1:]
    if word == "right":
        return are_parts(parts[:2], ("number", "hour")) and is_deed(parts[2:])
    if word == "washing":
        return 1 <= len(parts) <= 7 and all([colour in colour_names(palette) for colour in parts])
    return word in PARTS and are_parts(parts, PARTS[word])


def answer(book, row):
    """The answer to a row."""
    try:
        return told(book, row)
    except NoSuch:
        return "refused"


def told(book, row):
    """The answer to a row that isn't refused."""
    if row[0] in ("right", "strike", "undo"):
        return told_on(book, row)
    if row[0] == "washing":
        return washing_told(book.palette, list(row[1:]))
    return account_told(book, row)


def told_on(book, row):
    """The answer to a row that changes the book."""
    if row[0] == "right":
        book.put_right(row[1], row[3:], row[2])
    elif row[0] == "strike":
        book.strike(row[1])
    elif not book.undo():
        return "none"
    return "done"


def washing_told(palette, some):
    """The least washing of some colours, filled into a new pot."""
    hours, row = least_washing(palette, some)
    return "never" if hours is None else written([hours] + row)


def account_told(book, row):
    """The answer to a row that asks about an hour."""
    word = row[0]
    if word in ("state", "glass", "sums"):
        return told_of(Account(book, row[2]), word, row[1])
    account = Account(book, row[1])
    if word == "pieces":
        return several(account.pieces())
    if word == "voids":
        return several([(number, why) for hour, number, why in account.voids()])
    if word == "tunnel":
        return several(account.tunnel())
    return written(account.lacking([(row[2], colour_of(row[3]), row[4])]))


def told_of(account, word, name):
    """The answer to a row that asks about a pot or a colour."""
    if word == "state":
        return account.state(name)
    if word == "sums":
        return written(account.sums(colour_of(name)))
    glass = account.glass(name)
    return "-" if glass is None else written(glass[:2])


def colour_of(shade):
    """The colour that is written so."""
    return "" if shade == "*" else shade


def several(rows):
    """Rows in one answer."""
    return "; ".join([written(row) for row in rows]) if rows else "-"


def written(parts):
    """Parts in one row, the colour of streaked glass a sign of its own."""
    return " ".join(["*" if part == "" else str(part) for part in parts])
