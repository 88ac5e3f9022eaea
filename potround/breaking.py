"""A pot that breaks, and a new one in its place."""

from potround.palettes import ready_at, wash_for
from potround.shapes import is_told


def broken(palette, turns, hour, warm=24):
    """A tuple (ended, lost, behind, moved) of a pot that breaks at an hour."""
    ended = [turn for turn in turns if turn[3] <= hour]
    first = first_behind(turns, hour)
    behind = put_behind(palette, turns[first:], hour + warm)
    moved = [first + at for at, turn in enumerate(behind) if turn != turns[first + at]]
    # Turns without fault end one behind the other: one at most is filled and not ended.
    lost = first - 1 if len(ended) < first else None
    return (ended, lost, behind, moved)


def shows_broken(palette, turns, hour, warm, thing):
    """Whether a thing is what broken tells."""
    return is_told(thing, broken(palette, turns, hour, warm))


def last_warm(palette, turns, hour, number):
    """The greatest warm by which a turn that's filled behind an hour isn't moved."""
    latest = turns[number][0]
    for ahead in range(number - 1, first_behind(turns, hour) - 1, -1):
        at, colour, begin, end = turns[ahead]
        wash = wash_for(palette, colour, turns[ahead + 1][1])
        # The latest fill of the one ahead that still leaves this one its hour.
        latest -= ready_at(palette, colour) + end - begin + wash
    return latest - hour


def first_behind(turns, hour):
    """The number of the first turn that's filled later than an hour."""
    return len([turn for turn in turns if turn[0] <= hour])


def put_behind(palette, turns, since):
    """The turns of a new pot that may be filled from hour since on, each moved as little as may be."""
    told = []
    for turn in turns:
        if told:
            since = told[-1][3] + wash_for(palette, told[-1][1], turn[1])
        told.append(put_later(palette, turn, since))
    return told


def put_later(palette, turn, since):
    """The turn filled no sooner than hour since, as long worked as told."""
    at, colour, begin, end = turn
    later = max(at, since)
    worked = max(begin, ready_at(palette, colour, later))
    return (later, colour, worked, worked + end - begin)
