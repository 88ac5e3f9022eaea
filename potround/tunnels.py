"""The cooling tunnel, hour by hour."""

from potround.cooling import least_free
from potround.errors import Full, NoSuch


class Tunnel:
    """So many slots, each with one piece at most, at an hour."""

    def __init__(self, slots, hour=0):
        self.slots = slots
        self.hour = hour
        # Of each slot that isn't free: the name of its piece, and the hour at which it comes out.
        self.held = {}

    def enter(self, name, cool=8):
        """A piece goes into the least free slot, which is told."""
        slot = least_free(self.held)
        if slot >= self.slots:
            raise Full(self.slots)
        self.held[slot] = (name, self.hour + cool)
        return slot

    def tick(self, many=1):
        """So many hours pass; the list of tuples (hour, slot, name) of those that come out."""
        self.hour += many
        gone = [(out, slot, name) for slot, (name, out) in self.held.items() if out <= self.hour]
        self.held = {slot: piece for slot, piece in self.held.items() if piece[1] > self.hour}
        return sorted(gone)

    def inside(self):
        """The rising list of (slot, name, left)."""
        return sorted([(slot, name, out - self.hour) for slot, (name, out) in self.held.items()])

    def now(self):
        """The hour."""
        return self.hour

    def slot_of(self, name):
        """The rising list of the slots of pieces so called."""
        slots = sorted([slot for slot, (own, out) in self.held.items() if own == name])
        if not slots:
            raise NoSuch("piece", name)
        return slots

    def __len__(self):
        return len(self.held)

    def __eq__(self, other):
        return (isinstance(other, Tunnel) and self.slots == other.slots and self.hour == other.hour
                and self.held == other.held)
