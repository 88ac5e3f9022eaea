"""The hall's pots and tunnel, as entries of its book leave them one behind the other."""

from potround.deeds import pot_of
from potround.palettes import colour_names
from potround.pots import Pot
from potround.tunnels import Tunnel


class Hall:
    """A hall as its book tells of it, ahead of all entries."""

    def __init__(self, book):
        self.palette = book.palette
        self.ranks = {team: rank for team, rank in book.teams}
        self.makes = {kind: (rank, cool) for kind, rank, cool in book.kinds}
        self.stands = {pot: Pot() for pot in book.pots}
        self.slots = book.slots
        self.cooling = Tunnel(book.slots)
        # How many pieces of each kind and colour were made.
        self.made = {}

    def wait_till(self, hour):
        """The hours pass up to that one, which isn't ahead of now."""
        self.cooling.tick(hour - self.cooling.now())

    def void_word(self, hour, deed):
        """None, or the first word that is due, by which a deed can't be done."""
        if not self.has_names(deed):
            return "name"
        pot = self.stands[pot_of(deed)]
        word = deed[0]
        if word == "new":
            return None if pot.broken else "whole"
        if pot.broken:
            return "broken"
        if word in ("fill", "wash"):
            return unready_word(pot, hour)
        if word in ("empty", "gather") and pot.left == 0:
            return "none"
        if word == "gather":
            return self.gather_word(pot, hour, deed)
        return None

    def has_names(self, deed):
        """Whether the pot, team, kind and colour of a deed are there."""
        if pot_of(deed) not in self.stands:
            return False
        if deed[0] == "gather":
            return deed[1] in self.ranks and deed[3] in self.makes
        return deed[0] != "fill" or deed[2] in colour_names(self.palette)

    def gather_word(self, pot, hour, deed):
        """None, or the first word that is due, by which nothing can be gathered from a pot with glass."""
        word, team, name, kind, many = deed
        if hour < pot.ready:
            return "cold"
        if self.makes[kind][0] > self.ranks[team]:
            return "rank"
        if pot.left < many:
            return "less"
        if self.slots - len(self.cooling) < many:
            return "full"
        return None

    def do(self, hour, number, deed):
        """Does a deed that isn't void; told is (many, colour, source) of its gathers."""
        pot = self.stands[pot_of(deed)]
        word = deed[0]
        if word == "fill":
            return pot.fill(self.palette, deed[2], hour, number)
        if word == "gather":
            return self.gather(pot, deed[3], deed[4])
        if word == "empty":
            return pot.take(pot.left)
        if word == "break":
            return pot.shatter()
        if word == "wash":
            pot.wash(hour, deed[2])
        else:
            pot.renew(hour, deed[2])
        return (0, "", None)

    def gather(self, pot, kind, many):
        """So many pieces of a kind are made; told is (many, colour, source) of their glass."""
        told = pot.take(many)
        piece = (kind, told[1])
        self.made[piece] = self.made.get(piece, 0) + many
        for each in range(many):
            self.cooling.enter(piece, self.makes[kind][1])
        return told


def unready_word(pot, hour):
    """None, or the first word that is due, by which a whole pot can't be filled or washed."""
    if pot.is_busy(hour):
        return "busy"
    return "glass" if pot.left > 0 else None
