"""Times of a round's rows, and rings of steps that bar a length."""

from potround.rounds import steps_of
from potround.shapes import is_number


class Timetable:
    """The pair (fill, work) of each row, in rounds of a length."""

    def __init__(self, times, length):
        self.times = tuple([(fill, work) for fill, work in times])
        self.length = length

    def pair(self, number, often=0):
        """The pair of a row, often rounds later."""
        fill, work = self.times[number]
        return (fill + often * self.length, work + often * self.length)

    def __len__(self):
        return len(self.times)

    def __eq__(self, other):
        return isinstance(other, Timetable) and self.times == other.times and self.length == other.length

    def __repr__(self):
        return f"Timetable([{listed(self.times)}], {figures(self.length)})"

    def __str__(self):
        return f"{dashed(self.times)} / {figures(self.length)}"


def listed(times):
    """Pairs as Python writes them."""
    return ", ".join([f"({figures(fill)}, {figures(work)})" for fill, work in times])


def dashed(times):
    """Pairs in short."""
    return " ".join([f"{figures(fill)}-{figures(work)}" for fill, work in times])


def figures(number):
    """The number written out, whatever its size."""
    # Python itself refuses to write more than some thousand figures at once.
    left = abs(number)
    parts = []
    while left >= 10 ** 60:
        left, part = divmod(left, 10 ** 60)
        parts.append(f"{part:060d}")
    parts.append(f"-{left}" if number < 0 else f"{left}")
    return "".join(parts[::-1])


def keeps(palette, rows, timetable):
    """Whether a timetable has as many rows, no number below 0, and all steps hold."""
    # The steps come first: rows that can't go on are refused whatever is handed beside.
    steps = steps_of(palette, rows)
    if len(timetable) != len(rows):
        return False
    moments = moments_of(timetable)
    return (all([moment >= 0 for moment in moments])
            and all([holds(step, moments, timetable.length) for step in steps]))


def moments_of(timetable):
    """The hours of all moments in the first round, in order."""
    return [hour for number in range(len(timetable)) for hour in timetable.pair(number)]


def holds(step, moments, length):
    """Whether a step holds in rounds of a length."""
    one, other, hours, over = step
    return moments[other] + over * length >= moments[one] + hours


def is_ring(palette, rows, length, thing):
    """Whether a thing is a ring that bars a length."""
    steps = steps_of(palette, rows)
    if not are_numbers_of(steps, thing):
        return False
    ring = [steps[number] for number in thing]
    return is_closed(ring) and bars(ring, length)


def are_numbers_of(steps, thing):
    """Whether it is a list of numbers of steps, one at least, none twice."""
    return (isinstance(thing, list) and len(thing) > 0
            and all([is_number(number, 0, len(steps) - 1) for number in thing])
            and len(set(thing)) == len(thing))


def is_closed(ring):
    """Whether each step begins where the one ahead of it ends, the first where the last ends."""
    return all([ring[at - 1][1] == ring[at][0] for at in range(len(ring))])


def bars(ring, length):
    """Whether the steps' hours come to more than their overs together times a length."""
    return sum([step[2] for step in ring]) > sum([step[3] for step in ring]) * length
