"""The deeds of the hall's book."""

from potround.shapes import are_parts

# What stands behind the word of each deed.
PARTS = {
    "fill": ("name", "name"),
    "wash": ("name", "hours"),
    "empty": ("name",),
    "gather": ("name", "name", "name", "gathers"),
    "break": ("name",),
    "new": ("name", "hours"),
}


def is_deed(thing):
    """Whether it is one of the six deeds."""
    # Not all things can be looked up among the words, but all texts can.
    return (isinstance(thing, tuple) and len(thing) > 0 and isinstance(thing[0], str) and thing[0] in PARTS
            and are_parts(thing[1:], PARTS[thing[0]]))


def pot_of(deed):
    """The pot that a deed names."""
    return deed[2] if deed[0] == "gather" else deed[1]
