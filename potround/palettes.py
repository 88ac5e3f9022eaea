"""Colours with their washings, and kinds of pieces."""

from potround.errors import NoSuch
from potround.shapes import is_name, is_number, is_rising, is_row


def is_palette(thing):
    """Whether it is a pair (colours, washes)."""
    return is_row(thing, 2) and are_colours(thing[0]) and are_washes(thing[1], colour_names(thing))


def are_colours(thing):
    """Whether it is a palette's tuple of colours."""
    return (isinstance(thing, tuple) and 1 <= len(thing) <= 12 and all([is_colour(row) for row in thing])
            and is_rising([row[0] for row in thing]))


def is_colour(thing):
    """Whether it is a tuple (colour, charge, melt, gathers)."""
    return (is_row(thing, 4) and is_name(thing[0]) and is_number(thing[1], 1, 20)
            and is_number(thing[2], 0, 99) and is_number(thing[3], 1, 999))


def are_washes(thing, names):
    """Whether it is a palette's tuple of washes, its colours so called."""
    # Like ahead and behind would leave the hours to be compared, and None can't be.
    return (isinstance(thing, tuple) and len(thing) <= 60 and all([is_wash(row, names) for row in thing])
            and is_rising([(row[0], row[1]) for row in thing]))


def is_wash(thing, names):
    """Whether it is a tuple (ahead, behind, hours) of two unlike names of these."""
    return (is_row(thing, 3) and thing[0] in names and thing[1] in names and thing[0] != thing[1]
            and (thing[2] is None or is_number(thing[2], 0, 99)))


def is_kinds(thing):
    """Whether it is a tuple of kinds."""
    return (isinstance(thing, tuple) and 1 <= len(thing) <= 20 and all([is_kind(row) for row in thing])
            and is_rising([row[0] for row in thing]))


def is_kind(thing):
    """Whether it is a tuple (kind, rank, cool)."""
    return is_row(thing, 3) and is_name(thing[0]) and is_number(thing[1], 1, 9) and is_number(thing[2], 1, 99)


def colour_names(palette):
    """The NAMEs of its colours, rising."""
    return [row[0] for row in palette[0]]


def colour_row(palette, colour):
    """The tuple (colour, charge, melt, gathers) of a colour."""
    for row in palette[0]:
        if row[0] == colour:
            return row
    raise NoSuch("colour", colour)


def wash_for(palette, ahead, behind):
    """The hours of washing between two colours, None where behind may never follow."""
    if ahead is not None:
        colour_row(palette, ahead)
    colour_row(palette, behind)
    for row in palette[1]:
        if row[0] == ahead and row[1] == behind:
            return row[2]
    return 0


def ready_at(palette, colour, at=0):
    """The hour from which a colour is ready that is filled from hour at on."""
    row = colour_row(palette, colour)
    return at + row[1] + row[2]
