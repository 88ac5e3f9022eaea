"""Times for a round that goes on for ever, and the least length that it can have."""

from potround.rounds import steps_of
from potround.timetables import Timetable


def timed(palette, rows, length):
    """A pair: the earliest Timetable of a length and None, or None and a ring that bars it."""
    return earliest(steps_of(palette, rows), length)


def shortest(palette, rows):
    """A pair: the earliest Timetable of the least length, and a ring that bars the length one less."""
    steps = steps_of(palette, rows)
    ring = None
    told = earliest(steps, 0)
    while told[0] is None:
        # A ring bars every length below the least that it leaves, so that one is the next worth trying.
        ring = told[1]
        told = earliest(steps, least_left(steps, ring))
    return (told[0], ring)


def least_left(steps, ring):
    """The least length that a ring doesn't bar."""
    hours = sum([steps[number][2] for number in ring])
    # Steps within a round lead to greater moments only, so no ring is without an over.
    overs = sum([steps[number][3] for number in ring])
    return -(-hours // overs)


def earliest(steps, length):
    """A pair: the Timetable of a length whose times are as early as can be and None, or None and a ring."""
    # Each row has four steps and two moments.
    many = len(steps) // 2
    moments = [0] * many
    last_steps = [None] * many
    for turn in range(many):
        moment = put_off(steps, length, moments, last_steps)
        if moment is None:
            return (Timetable(list(zip(moments[::2], moments[1::2])), length), None)
    # A moment put off in as many turns as there are moments has a ring behind it.
    return (None, ring_behind(steps, last_steps, moment))


def put_off(steps, length, moments, last_steps):
    """Puts each moment off to where its steps hold, one step after the other; the moment put off last, or None."""
    moved = None
    for number, (one, other, hours, over) in enumerate(steps):
        least = moments[one] + hours - over * length
        if moments[other] < least:
            moments[other] = least
            last_steps[other] = number
            moved = other
    return moved


def ring_behind(steps, last_steps, moment):
    """The ring that is met by going back from a moment, each time by the step that put it off last."""
    begin = moment
    # The way back may begin outside the ring; so many steps are sure to be within.
    for turn in range(len(last_steps)):
        begin = steps[last_steps[begin]][0]
    ring = [last_steps[begin]]
    while steps[ring[-1]][0] != begin:
        ring.append(last_steps[steps[ring[-1]][0]])
    return ring[::-1]
