"""One pot of the hall, as its deeds leave it."""

from potround.palettes import colour_row, ready_at, wash_for


class Pot:
    """A pot, at first whole, new and without glass."""

    def __init__(self):
        self.broken = False
        # None, or the word of its last washing or warming and the hour at which that is over.
        self.care = None
        # The colour that its last fill named, None of a new pot, and the hours of the washings since then.
        self.last = None
        self.washed = 0
        # Its glass: how many gathers are left of it, none of a pot without glass, its colour, the number of the entry
        # by which it was filled, the hours at which it was full and is ready.
        self.left = 0
        self.colour = ""
        self.source = None
        self.full = 0
        self.ready = 0

    def fill(self, palette, colour, hour, number):
        """Filled with a colour by an entry; told is (many, colour, source) of what came in."""
        self.left = colour_row(palette, colour)[3]
        self.colour = "" if self.streaks(palette, colour) else colour
        self.source = number
        self.full = hour + colour_row(palette, colour)[1]
        self.ready = ready_at(palette, colour, hour)
        self.last = colour
        self.washed = 0
        return (self.left, self.colour, self.source)

    def streaks(self, palette, colour):
        """Whether a colour that is filled now would be streaked."""
        wash = wash_for(palette, self.last, colour)
        return wash is None or self.washed < wash

    def take(self, many):
        """So many gathers go out; told is (many, colour, source) of them."""
        told = (many, self.colour, self.source)
        self.left -= many
        if self.left == 0:
            self.colour = ""
            self.source = None
        return told

    def wash(self, hour, hours):
        """Washed for so many hours."""
        self.care = ("washing", hour + hours)
        self.washed += hours

    def shatter(self):
        """Broken; told is (many, colour, source) of the glass that is lost."""
        self.broken = True
        self.care = None
        return self.take(self.left)

    def renew(self, hour, warm):
        """A new one in the place of the broken one, which warms so many hours."""
        self.broken = False
        self.care = ("warming", hour + warm)
        self.last = None
        self.washed = 0

    def is_busy(self, hour):
        """Whether its washing or warming isn't over."""
        return self.care is not None and hour < self.care[1]

    def word_at(self, hour):
        """What it is at an hour, behind all its deeds."""
        if self.broken:
            return "broken"
        if self.is_busy(hour):
            return self.care[0]
        if self.left == 0:
            return "out"
        if hour < self.full:
            return "filled"
        return "melting" if hour < self.ready else "ready"
