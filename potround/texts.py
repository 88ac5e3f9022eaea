"""A book as a text, and read back from it."""

from potround.errors import BadRow
from potround.reading import begun, enter_row, is_entry, rows_of


def book_text(book):
    """The text of a Book."""
    rows = [("colour",) + row for row in book.palette[0]]
    rows.extend([("wash",) + row for row in book.palette[1]])
    rows.extend([("kind",) + row for row in book.kinds])
    rows.extend([("team",) + row for row in book.teams])
    rows.extend([("pot", name) for name in book.pots])
    rows.append(("slots", book.slots))
    rows.extend([("at", hour) + deed for hour, number, deed in book.entries()])
    return "\n".join([" ".join([word_of(part) for part in row]) for row in rows])


def word_of(part):
    """A part of a row as it is written."""
    return "never" if part is None else str(part)


def book_from(text):
    """The Book of a text, its entries entered in the text's order."""
    rows = rows_of(text)
    book, behind = begun(rows)
    for number in range(behind, len(rows)):
        if not is_entry(rows[number], number - behind):
            raise BadRow(number)
        enter_row(book, rows[number])
    return book
