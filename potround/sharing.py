"""Orders shared among crews by their ranks."""

from potround.shapes import is_number, is_rising, is_row


def shared(crews, orders):
    """A tuple (rows, lacking, rank): as many pieces as can be made, how many are lacking, and a rank that shows it."""
    left = [pieces for rank, pieces in crews]
    rows = []
    # Whoever may make of an order may make of all of lesser ranks, so the greatest ranks choose first.
    for order in sorted(range(len(orders)), key=lambda number: -orders[number][0]):
        rows.extend(made_of(crews, orders, order, left))
    lacking = sum([many for rank, many in orders]) - sum([row[2] for row in rows])
    return (sorted(rows), lacking, lacking_rank(crews, orders, lacking))


def made_of(crews, orders, order, left):
    """The rows of an order, made of what is left of the crews' pieces, which grows less."""
    rank, wanted = orders[order]
    rows = []
    for crew in range(len(crews)):
        many = min(left[crew], wanted)
        if crews[crew][0] >= rank and many > 0:
            left[crew] -= many
            wanted -= many
            rows.append((order, crew, many))
    return rows


def lacking_rank(crews, orders, lacking):
    """The least of the orders' ranks by which just so many are lacking, None where none is."""
    if lacking == 0:
        return None
    return min([rank for rank, many in orders if lack_by(crews, orders, rank) == lacking])


def lack_by(crews, orders, rank):
    """By how many the orders of a rank or more are above the crews of that rank or more, 0 at least."""
    return max(0, sum_from(orders, rank) - sum_from(crews, rank))


def sum_from(pairs, rank):
    """The second parts, together, of all pairs of a rank or more."""
    return sum([many for own, many in pairs if own >= rank])


def shows_share(crews, orders, thing):
    """Whether it is rows by which crews make pieces of orders, however many."""
    return (isinstance(thing, list) and all([is_share(crews, orders, row) for row in thing])
            and is_rising([(row[0], row[1]) for row in thing])
            and keeps_to(thing, 0, orders) and keeps_to(thing, 1, crews))


def is_share(crews, orders, thing):
    """Whether it is a tuple (order, crew, many) of a crew that may make of the order."""
    return (is_row(thing, 3) and is_number(thing[0], 0, len(orders) - 1) and is_number(thing[1], 0, len(crews) - 1)
            and is_number(thing[2], 1, orders[thing[0]][1]) and crews[thing[1]][0] >= orders[thing[0]][0])


def keeps_to(rows, part, pairs):
    """Whether the rows of each pair, by its number in that part, come to no more than its own."""
    return all([sum([row[2] for row in rows if row[part] == number]) <= many
                for number, (rank, many) in enumerate(pairs)])


def wanted_of(kinds, wanted, colour):
    """The orders (rank, many) of a colour, in order."""
    ranks = {kind: rank for kind, rank, cool in kinds}
    return [(ranks[kind], many) for kind, own, many in wanted if own == colour]
