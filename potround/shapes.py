"""What things of any make are asked, ahead of all that is asked of what they mean."""

LETTERS = "abcdefghijklmnopqrstuvwxyz"
# The bounds of the numbers that stand in deeds, entries and asks.
BOUNDS = {"hours": (0, 999), "gathers": (1, 999), "hour": (0, 9999), "number": (0, 1000000000)}


def is_number(thing, low, high):
    """Whether it is a number from low to high."""
    # To Python True and False are numbers; here they never are.
    return isinstance(thing, int) and not isinstance(thing, bool) and low <= thing <= high


def is_name(thing):
    """Whether it is a NAME."""
    return isinstance(thing, str) and 1 <= len(thing) <= 8 and all([sign in LETTERS for sign in thing])


def is_row(thing, size):
    """Whether it is a tuple of so many parts."""
    return isinstance(thing, tuple) and len(thing) == size


def are_parts(things, sorts):
    """Whether each of several things is of its sort, a word of BOUNDS, "name", or "shade", a NAME or the sign *."""
    return len(things) == len(sorts) and all([is_part(thing, sort) for thing, sort in zip(things, sorts)])


def is_part(thing, sort):
    """Whether a thing is of a sort."""
    if sort in BOUNDS:
        return is_number(thing, BOUNDS[sort][0], BOUNDS[sort][1])
    return is_name(thing) or (sort == "shade" and thing == "*")


def is_rising(keys):
    """Whether each of a list's keys is greater than the one ahead."""
    return all([one < other for one, other in zip(keys, keys[1:])])


def are_rising(thing, low, high):
    """Whether it is a rising list of numbers from low to high."""
    return isinstance(thing, list) and all([is_number(part, low, high) for part in thing]) and is_rising(thing)


def is_told(thing, told):
    """Whether it is what was told, in which neither True nor False stands."""
    return thing == told and not holds_truth(thing)


def holds_truth(thing):
    """Whether True or False stands in it; to Python they are like 1 and 0."""
    if isinstance(thing, (list, tuple)):
        return any([holds_truth(part) for part in thing])
    return isinstance(thing, bool)
