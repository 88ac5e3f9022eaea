"""Colours filled into one pot, one behind the other, with the washing between them."""

from potround.palettes import wash_for


def washing_of(palette, row, first=None):
    """The hours of washing when a pot is filled with these in order, None where one may never follow."""
    hours = 0
    ahead = first
    for colour in row:
        wash = wash_for(palette, ahead, colour)
        if wash is None:
            return None
        hours += wash
        ahead = colour
    return hours


def least_washing(palette, some, first=None):
    """A pair (hours, row): the order of least washing, the first one of several; (None, None) where there is none."""
    return least_behind(palette, first, tuple(sorted(some)), {})


def least_behind(palette, ahead, left, known):
    """The least washing of what is left, rising, behind a colour; known holds what was found already."""
    if not left:
        return (0, [])
    if (ahead, left) not in known:
        known[(ahead, left)] = least_next(palette, ahead, left, known)
    return known[(ahead, left)]


def least_next(palette, ahead, left, known):
    """The least washing of what is left, over all colours that may come next."""
    best = (None, None)
    for at, colour in enumerate(left):
        wash = wash_for(palette, ahead, colour)
        hours, row = least_behind(palette, colour, left[:at] + left[at + 1:], known)
        if wash is None or hours is None:
            continue
        # Colours come rising, so an order that is only as good comes behind the one that was found first.
        if best[0] is None or wash + hours < best[0]:
            best = (wash + hours, [colour] + row)
    return best
