"""The hall's book: entries that are entered, put right, struck and undone."""

from potround.errors import NoSuch


class Book:
    """The entries of a hall with these colours, kinds, teams, pots and slots."""

    def __init__(self, palette, kinds, teams, pots, slots=12):
        self.palette = palette
        self.kinds = kinds
        self.teams = teams
        self.pots = pots
        self.slots = slots
        # All that was told and not undone, in order: tuples (number, hour, deed), hour and deed None of a strike.
        self.told = []

    def enter(self, deed, hour=0):
        """An entry more; told is its number."""
        number = max([row[0] for row in self.told], default=-1) + 1
        self.told.append((number, hour, deed))
        return number

    def put_right(self, number, deed, hour):
        """An entry that stands is that from now on."""
        self.check(number)
        self.told.append((number, hour, deed))

    def strike(self, number):
        """An entry that stands is gone."""
        self.check(number)
        self.told.append((number, None, None))

    def check(self, number):
        """Refuses the number of an entry that doesn't stand."""
        if number not in [own for hour, own, deed in self.entries()]:
            raise NoSuch("entry", number)

    def undo(self):
        """The last that was told is as if it had never been; False where there is none."""
        if not self.told:
            return False
        self.told.pop()
        return True

    def entries(self):
        """The rising list of (hour, number, deed) of the entries that stand."""
        # What was told of a number last holds.
        last = {number: (hour, deed) for number, hour, deed in self.told}
        return sorted([(hour, number, deed) for number, (hour, deed) in last.items() if deed is not None])

    def told_times(self):
        """How often something was told that isn't undone."""
        return len(self.told)

    def as_told(self, many):
        """A Book of its own, as this one was when so many were told."""
        book = Book(self.palette, self.kinds, self.teams, self.pots, self.slots)
        book.told = self.told[:many]
        return book

    def twin(self):
        """A Book of its own with the same."""
        return self.as_told(self.told_times())

    def __len__(self):
        return len(self.entries())

    def __eq__(self, other):
        return (isinstance(other, Book) and self.palette == other.palette and self.kinds == other.kinds
                and self.teams == other.teams and self.pots == other.pots and self.slots == other.slots
                and self.entries() == other.entries())
