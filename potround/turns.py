"""One pot's turns, hour by hour."""

from potround.palettes import colour_names, colour_row, ready_at, wash_for
from potround.shapes import is_number, is_rising, is_row

LAST_HOUR = 1000000
WORDS = ("filled", "melting", "ready", "worked", "washed", "out")


def is_turns(palette, thing):
    """Whether it is a pot's turns."""
    return (isinstance(thing, list) and len(thing) <= 30 and all([is_turn(palette, turn) for turn in thing])
            and is_rising([turn[0] for turn in thing]))


def is_turn(palette, thing):
    """Whether it is a tuple (at, colour, begin, end)."""
    return (is_row(thing, 4) and thing[1] in colour_names(palette)
            and all([is_number(hour, 0, LAST_HOUR) for hour in (thing[0], thing[2], thing[3])])
            and thing[0] < thing[2] < thing[3])


def fault_of(palette, turns):
    """None, or the first fault, a tuple (number, word, hours)."""
    for number, turn in enumerate(turns):
        fault = None
        if number > 0:
            fault = fault_between(palette, turns[number - 1], turn)
        if fault is None:
            fault = fault_within(palette, turn)
        if fault is not None:
            return (number, fault[0], fault[1])
    return None


def fault_between(palette, ahead, turn):
    """None, or the first fault of a turn by the one ahead of it, a pair (word, hours)."""
    gap = turn[0] - ahead[3]
    if gap < 0:
        return ("over", -gap)
    wash = wash_for(palette, ahead[1], turn[1])
    if wash is None:
        return ("never", None)
    if gap < wash:
        return ("spoilt", wash - gap)
    return None


def fault_within(palette, turn):
    """None, or the fault of a turn by itself, a pair (word, hours)."""
    lack = ready_at(palette, turn[1], turn[0]) - turn[2]
    if lack > 0:
        return ("early", lack)
    return None


def state_at(palette, turns, hour):
    """A pair (word, number): what the pot is at an hour, by its last turn filled by then."""
    state = ("out", None)
    for word, number, since in marks_of(palette, turns):
        # Of words with one and the same first hour the last one holds: the others have no hours.
        if since <= hour:
            state = (word, number)
    return state


def stretches(palette, turns, first, last):
    """The list of tuples (word, number, since, until), from hour first to ahead of last."""
    marks = [("out", None, first)] + marks_of(palette, turns)
    ends = [mark[2] for mark in marks[1:]] + [last]
    rows = [(word, number, max(first, since), min(last, until))
            for (word, number, since), until in zip(marks, ends)]
    return [row for row in rows if row[2] < row[3]]


def hours_in(palette, turns, word, first=0, last=24):
    """In how many hours, from first to ahead of last, the pot is so."""
    return sum([until - since for told, number, since, until in stretches(palette, turns, first, last) if told == word])


def spare_of(palette, turns, number):
    """By how many hours a turn could be filled later, and still begin as told."""
    at, colour, begin, end = turns[number]
    return begin - ready_at(palette, colour, at)


def marks_of(palette, turns):
    """The list of tuples (word, number, since), in order: each word's first hour, also of words of no hours."""
    marks = []
    for number, (at, colour, begin, end) in enumerate(turns):
        filled = at + colour_row(palette, colour)[1]
        washed = end + washing_behind(palette, turns, number)
        hours = (at, filled, ready_at(palette, colour, at), begin, end, washed)
        marks.extend([(word, number, since) for word, since in zip(WORDS, hours)])
    return marks


def washing_behind(palette, turns, number):
    """The hours of washing between a turn and the next one, 0 behind the last."""
    if number + 1 == len(turns):
        return 0
    return wash_for(palette, turns[number][1], turns[number + 1][1])
