"""What the hall's book comes to at an hour."""

from potround.deeds import pot_of
from potround.errors import NoSuch
from potround.hall import Hall


class Account:
    """All entries of a book up to an hour, done in their order."""

    def __init__(self, book, hour):
        self.hour = hour
        self.hall = Hall(book)
        self.done = []
        self.void = []
        for at, number, deed in book.entries():
            if at <= hour:
                self.tell(at, number, deed)
        self.hall.wait_till(hour)

    def tell(self, at, number, deed):
        """Does the next entry, or finds it void."""
        self.hall.wait_till(at)
        word = self.hall.void_word(at, deed)
        if word is None:
            many, colour, source = self.hall.do(at, number, deed)
            self.done.append((at, number, deed[0], pot_of(deed), many, colour, source))
        else:
            self.void.append((at, number, word))

    def rows(self):
        """The list of (hour, number, word, pot, many, colour, source) of what was done."""
        return list(self.done)

    def voids(self):
        """The rising list of (hour, number, word) of what couldn't be done."""
        return list(self.void)

    def state(self, pot):
        """What a pot is at that hour."""
        return self.pot_called(pot).word_at(self.hour)

    def glass(self, pot):
        """None, or (colour, left, source) of the glass in a pot."""
        called = self.pot_called(pot)
        if called.left == 0:
            return None
        return (called.colour, called.left, called.source)

    def pot_called(self, name):
        """The Pot of that name."""
        if name not in self.hall.stands:
            raise NoSuch("pot", name)
        return self.hall.stands[name]

    def pieces(self):
        """The rising list of (kind, colour, many) of all pieces made."""
        return sorted([(kind, colour, many) for (kind, colour), many in self.hall.made.items()])

    def tunnel(self):
        """The rising list of (slot, kind, colour, out) of the pieces inside."""
        return [(slot, kind, colour, self.hour + left) for slot, (kind, colour), left in self.hall.cooling.inside()]

    def sums(self, colour):
        """(filled, made, thrown, lost, left) of a colour's glass, in gathers."""
        filled, made, thrown, lost = [self.sum_of(word, colour) for word in ("fill", "gather", "empty", "break")]
        return (filled, made, thrown, lost, filled - made - thrown - lost)

    def sum_of(self, word, colour):
        """How many gathers of a colour's glass were moved by deeds of a word."""
        return sum([row[4] for row in self.done if row[2] == word and row[5] == colour])

    def lacking(self, orders):
        """The list of how many are lacking of each order, pieces going to like orders in their order."""
        left = {(kind, colour): many for kind, colour, many in self.pieces()}
        lacks = []
        for kind, colour, many in orders:
            there = left.get((kind, colour), 0)
            left[(kind, colour)] = max(0, there - many)
            lacks.append(max(0, many - there))
        return lacks
