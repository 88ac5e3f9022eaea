"""The deeds of the hall's book."""

from potround.shapes import is_name, is_number

# Behind each word stand these parts: None is a NAME, a pair the bounds of a number.
PARTS = {
    "fill": (None, None),
    "wash": (None, (0, 999)),
    "empty": (None,),
    "gather": (None, None, None, (1, 999)),
    "break": (None,),
    "new": (None, (0, 999)),
}


def is_deed(thing):
    """Whether it is one of the six deeds."""
    # Not all things can be looked up among the words, but all texts can.
    return (isinstance(thing, tuple) and len(thing) > 0 and isinstance(thing[0], str) and thing[0] in PARTS
            and are_parts(thing[1:], PARTS[thing[0]]))


def are_parts(things, parts):
    """Whether things are what stands behind a word."""
    return len(things) == len(parts) and all([is_part(thing, part) for thing, part in zip(things, parts)])


def is_part(thing, part):
    """Whether a thing is a NAME, or a number within these bounds."""
    if part is None:
        return is_name(thing)
    return is_number(thing, part[0], part[1])
