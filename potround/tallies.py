"""Tallies: some of a day's hours, written as six signs."""

from potround.errors import BadTally

SIGNS = "0123456789abcdef"
DAY = 24


def tally_of(hours):
    """The tally of a list of hours, in any order."""
    return written(sum([1 << hour for hour in range(DAY) if hour in hours]))


def tally_hours(text):
    """The rising list of a tally's hours."""
    bits = bits_of(text)
    return [hour for hour in range(DAY) if bits >> hour & 1]


def both_tally(one, other):
    """The tally of the hours that are in both."""
    return written(bits_of(one) & bits_of(other))


def either_tally(one, other):
    """The tally of the hours that are in one at least."""
    return written(bits_of(one) | bits_of(other))


def turned_tally(tally, by):
    """The tally of the same hours, each by later, round the day."""
    return tally_of([(hour + by) % DAY for hour in tally_hours(tally)])


def written(bits):
    """The tally of a number."""
    return f"{bits:06x}"


def bits_of(text):
    """The number of a tally."""
    # Python's own reading takes blanks, a sign, capital letters and 0x ahead, too.
    if not (isinstance(text, str) and len(text) == 6 and all([sign in SIGNS for sign in text])):
        raise BadTally(f"a tally is six signs of {SIGNS}")
    return int(text, 16)
