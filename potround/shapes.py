"""What things of any make are asked, ahead of all that is asked of what they mean."""

LETTERS = "abcdefghijklmnopqrstuvwxyz"


def is_number(thing, low, high):
    """Whether it is a number from low to high."""
    # To Python True and False are numbers; here they never are.
    return isinstance(thing, int) and not isinstance(thing, bool) and low <= thing <= high


def is_name(thing):
    """Whether it is a NAME."""
    return isinstance(thing, str) and 1 <= len(thing) <= 8 and all([sign in LETTERS for sign in thing])


def is_row(thing, size):
    """Whether it is a tuple of so many parts."""
    return isinstance(thing, tuple) and len(thing) == size


def is_rising(keys):
    """Whether each of a list's keys is greater than the one ahead."""
    return all([one < other for one, other in zip(keys, keys[1:])])


def are_rising(thing, low, high):
    """Whether it is a rising list of numbers from low to high."""
    return isinstance(thing, list) and all([is_number(part, low, high) for part in thing]) and is_rising(thing)


def is_told(thing, told):
    """Whether it is what was told, in which neither True nor False stands."""
    return thing == told and not holds_truth(thing)


def holds_truth(thing):
    """Whether True or False stands in it; to Python they are like 1 and 0."""
    if isinstance(thing, (list, tuple)):
        return any([holds_truth(part) for part in thing])
    return isinstance(thing, bool)
