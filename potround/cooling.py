"""Pieces in the cooling tunnel: their slots, and how many of them can be cooled."""

from potround.shapes import are_rising


def in_at(pieces, hour):
    """The rising list of the numbers of the pieces in at an hour."""
    return [number for number, piece in enumerate(pieces) if is_in(piece, hour)]


def is_in(piece, hour):
    """Whether a piece is in at an hour."""
    return piece[0] <= hour < out_at(piece)


def out_at(piece):
    """The hour at which a piece comes out."""
    come, cool = piece
    return come + cool


def most_in(pieces):
    """A pair (many, hour): the greatest number of pieces in at one hour, and the first such hour."""
    best = (0, None)
    # There are more of them in than an hour ahead at none but hours of coming.
    for hour in hours_of_coming(pieces):
        many = len(in_at(pieces, hour))
        if many > best[0]:
            best = (many, hour)
    return best


def hours_of_coming(pieces):
    """The rising list of the hours at which pieces come."""
    return sorted(set([come for come, cool in pieces]))


def by_coming(pieces):
    """The numbers of the pieces as they come, of like hours the lesser numbers first."""
    return sorted(range(len(pieces)), key=lambda number: (pieces[number][0], number))


def slotted(pieces):
    """The list of each piece's slot, the least that is free when it comes."""
    slots = {}
    for number in by_coming(pieces):
        come = pieces[number][0]
        taken = [slots[other] for other in slots if is_in(pieces[other], come)]
        slots[number] = least_free(taken)
    return [slots[number] for number in range(len(pieces))]


def least_free(taken):
    """The least slot that isn't one of these."""
    slot = 0
    while slot in taken:
        slot += 1
    return slot


def most_cooled(pieces, slots):
    """A pair (numbers, hours): as many pieces as can be cooled, and hours that show that no more can be."""
    return (kept_in(pieces, slots), scarce_hours(pieces, slots))


def kept_in(pieces, slots):
    """The rising list of the numbers of the most pieces of which no more than slots are in at any hour."""
    kept = []
    for number in by_coming(pieces):
        kept.append(number)
        inside = [other for other in kept if is_in(pieces[other], pieces[number][0])]
        if len(inside) > slots:
            # One of these must go; the one that stays longest would be the most in the way of those that come later.
            kept.remove(max(inside, key=lambda other: out_at(pieces[other])))
    return sorted(kept)


def scarce_hours(pieces, slots):
    """The rising list of hours of which bound_by tells the least."""
    # No hour has more pieces in than the last hour of coming up to it, so the others needn't be looked at.
    best = (len(pieces), [])
    ended = []
    for hour in hours_of_coming(pieces):
        cost, hours = min([(slots + missed(pieces, None, hour), [hour])]
                          + [(slots + own + missed(pieces, row[-1], hour), row + [hour]) for own, row in ended])
        ended.append((cost, hours))
        best = min(best, (cost + missed(pieces, hour, None), hours))
    return best[1]


def missed(pieces, ahead, behind):
    """How many pieces come behind one hour and are out by another, either of which may be None."""
    return len([piece for piece in pieces
                if (ahead is None or piece[0] > ahead) and (behind is None or out_at(piece) <= behind)])


def bound_by(pieces, slots, hours):
    """Slots times how many hours there are, and how many pieces are in at none of them."""
    return slots * len(hours) + len([piece for piece in pieces if not any([is_in(piece, hour) for hour in hours])])


def shows_cooled(pieces, slots, thing):
    """Whether it is a rising list of pieces' numbers, no more of them than slots in at any hour."""
    return (are_rising(thing, 0, len(pieces) - 1)
            and most_in([pieces[number] for number in thing])[0] <= slots)
