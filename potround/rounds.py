"""Rows of a round that goes on for ever, and the steps that hold their times."""

from potround.errors import Never
from potround.palettes import colour_names, colour_row, ready_at, wash_for
from potround.shapes import is_name, is_number, is_row


def is_rows(palette, thing):
    """Whether it is the rows of a round."""
    return isinstance(thing, list) and 1 <= len(thing) <= 12 and all([is_round_row(palette, row) for row in thing])


def is_round_row(palette, thing):
    """Whether it is a tuple (pot, team, colour, hours)."""
    return (is_row(thing, 4) and is_name(thing[0]) and is_name(thing[1]) and thing[2] in colour_names(palette)
            and is_number(thing[3], 1, 99))


def steps_of(palette, rows):
    """The list of tuples (one, other, hours, over), four for each row."""
    steps = []
    for number in range(len(rows)):
        steps.extend(row_steps(palette, rows, number))
    return steps


def row_steps(palette, rows, number):
    """The four steps of a row."""
    pot, team, colour, hours = rows[number]
    fill = 2 * number
    work = fill + 1
    following = (number + 1) % len(rows)
    same_team = next_like(rows, number, 1)
    same_pot = next_like(rows, number, 0)
    return [
        (fill, 2 * following, colour_row(palette, colour)[1], over_to(number, following)),
        (fill, work, ready_at(palette, colour), 0),
        (work, 2 * same_team + 1, hours, over_to(number, same_team)),
        (work, 2 * same_pot, hours + washing_to(palette, colour, rows[same_pot][2]), over_to(number, same_pot)),
    ]


def next_like(rows, number, part):
    """The next row, round about, that is like this one in a part: this one itself where no other is."""
    at = (number + 1) % len(rows)
    while rows[at][part] != rows[number][part]:
        at = (at + 1) % len(rows)
    return at


def over_to(number, other):
    """1 where the other row comes in the next round only, else 0."""
    return 0 if other > number else 1


def washing_to(palette, ahead, behind):
    """The hours of washing between two colours of a pot."""
    wash = wash_for(palette, ahead, behind)
    if wash is None:
        raise Never(ahead, behind)
    return wash
