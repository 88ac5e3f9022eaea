"""Pots hour by hour in a round that goes on for ever."""

from potround.errors import NoSuch
from potround.rounds import next_like, over_to
from potround.turns import state_at


def round_state(palette, rows, timetable, pot, hour):
    """A tuple (word, number, often): what a pot is at an hour, by its last row filled by then."""
    number, often = last_filled(timetable, numbers_of(rows, pot), hour)
    if number is None:
        return ("out", None, None)
    following = next_like(rows, number, 0)
    # The turn behind tells the washing; it is filled later than the hour, so the word is the first one's.
    turns = [turn_in(rows, timetable, number, often),
             turn_in(rows, timetable, following, often + over_to(number, following))]
    return (state_at(palette, turns, hour)[0], number, often)


def turns_of(palette, rows, timetable, pot, often):
    """The turns of a pot in the first so many rounds."""
    numbers = numbers_of(rows, pot)
    return [turn_in(rows, timetable, number, again) for again in range(often) for number in numbers]


def glass_in(palette, rows, timetable, colour, hour):
    """How many pots have ready or worked glass of a colour at an hour."""
    pots = sorted(set([row[0] for row in rows]))
    return len([pot for pot in pots if has_glass(palette, rows, timetable, pot, colour, hour)])


def has_glass(palette, rows, timetable, pot, colour, hour):
    """Whether a pot has ready or worked glass of a colour at an hour."""
    word, number, often = round_state(palette, rows, timetable, pot, hour)
    return word in ("ready", "worked") and rows[number][2] == colour


def numbers_of(rows, pot):
    """The rising list of the numbers of a pot's rows."""
    numbers = [number for number, row in enumerate(rows) if row[0] == pot]
    if not numbers:
        raise NoSuch("pot", pot)
    return numbers


def last_filled(timetable, numbers, hour):
    """A pair (number, often): which of these rows was filled last by an hour, in which round; of None ahead of all."""
    best = (None, None)
    latest = None
    for number in numbers:
        often = (hour - timetable.pair(number)[0]) // timetable.length
        fill = timetable.pair(number, often)[0]
        if often >= 0 and (latest is None or latest < fill):
            best = (number, often)
            latest = fill
    return best


def turn_in(rows, timetable, number, often):
    """The turn (at, colour, begin, end) of a row, often rounds later."""
    pot, team, colour, hours = rows[number]
    fill, work = timetable.pair(number, often)
    return (fill, colour, work, work + hours)
