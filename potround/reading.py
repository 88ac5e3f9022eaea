"""Rows of a book's text, read one by one."""

from potround.book import Book
from potround.deeds import is_deed
from potround.errors import BadRow
from potround.palettes import is_colour, is_kind, is_wash
from potround.shapes import are_parts, is_name, is_number, is_row

FIGURES = "0123456789"
# The sorts of rows up to that of slots, in their order, and how many of each may stand.
HEAD = ("colour", "wash", "kind", "team", "pot", "slots")
MOST = {"colour": 12, "wash": 60, "kind": 20, "team": 10, "pot": 8, "slots": 1}


def rows_of(text):
    """The rows of a text, each a tuple of its words, numbers among them."""
    return [tuple([part_of(word) for word in row.split(" ")]) for row in text.split("\n")]


def part_of(word):
    """A number where the word is one, else the word itself."""
    # No number of so many figures is within any bounds, and Python won't read those of some thousand.
    if len(word) > 80 or not all([sign in FIGURES for sign in word]):
        return word
    if word == "" or (word[0] == "0" and word != "0"):
        return word
    return int(word)


def begun(rows):
    """A pair (book, number): the Book of the rows up to that of slots, and the number of the row behind it."""
    found = {word: [] for word in HEAD}
    for number, row in enumerate(rows):
        if not can_begin(found, row):
            raise BadRow(number)
        found[row[0]].append(thing_of(row))
        if row[0] == "slots":
            return (book_of(found), number + 1)
    raise BadRow(len(rows))


def thing_of(row):
    """What a row tells behind its word."""
    if row[0] == "wash" and row[-1] == "never":
        return row[1:-1] + (None,)
    return row[1:]


def can_begin(found, row):
    """Whether a row can stand behind those that were found, up to that of slots."""
    word = row[0]
    return (word in HEAD and in_order(found, word) and len(found[word]) < MOST[word]
            and is_so_written(found, word, thing_of(row)) and rises(found[word], thing_of(row)))


def in_order(found, word):
    """Whether no later sort of rows was found, and those ahead that can't be left out were."""
    later = HEAD[HEAD.index(word) + 1:]
    if any([found[other] for other in later]):
        return False
    if word in ("wash", "kind"):
        return len(found["colour"]) > 0
    return word == "colour" or len(found["kind"]) > 0


def is_so_written(found, word, thing):
    """Whether a thing is what may stand behind a word, within its bounds."""
    if word == "colour":
        return is_colour(thing)
    if word == "wash":
        return is_wash(thing, [row[0] for row in found["colour"]])
    if word == "kind":
        return is_kind(thing)
    if word == "team":
        return is_row(thing, 2) and is_name(thing[0]) and is_number(thing[1], 1, 9)
    if word == "pot":
        return is_row(thing, 1) and is_name(thing[0])
    return is_row(thing, 1) and is_number(thing[0], 0, 60)


def rises(ahead, thing):
    """Whether a thing is greater than the last one ahead of it of its sort, by its names alone."""
    return not ahead or names_of(ahead[-1]) < names_of(thing)


def names_of(thing):
    """The names that a thing begins with, by which it is unlike others of its sort."""
    return [part for part in thing if isinstance(part, str)]


def book_of(found):
    """The Book of all rows up to that of slots."""
    palette = (tuple(found["colour"]), tuple(found["wash"]))
    pots = tuple([row[0] for row in found["pot"]])
    return Book(palette, tuple(found["kind"]), tuple(found["team"]), pots, found["slots"][0][0])


def is_entry(row, entered):
    """Whether a row is one of at, behind so many of them, so written and within its bounds."""
    return row[0] == "at" and entered < 120 and are_parts(row[1:2], ("hour",)) and is_deed(row[2:])


def enter_row(book, row):
    """Enters what a row of at tells."""
    book.enter(row[2:], row[1])
