"""Teams' wants served by offers, hour by hour."""


def served(offers, wants):
    """A pair (rows, None), or (None, (hour, hours)) of the first hour up to which they can't be served."""
    rows = []
    left = [gathers for first, last, gathers in offers]
    for hour, many in enumerate(wants):
        rows.append([])
        for want in range(many):
            lack = serve_one(offers, rows, left, hour)
            if lack is not None:
                return (None, (hour, lack))
    return ([sorted(row) for row in rows], None)


def serve_one(offers, rows, left, hour):
    """Serves one want more at an hour, told by None; else the rising list of hours that want too much."""
    # What an hour asks of offers without a gather left, it may get where another hour gives it up and asks in turn.
    asked_by = {}
    gives_up = {hour: None}
    waiting = [hour]
    while waiting:
        asking = waiting.pop()
        unused = unused_at(offers, rows, asking)
        for number in unused:
            if number in asked_by:
                continue
            asked_by[number] = asking
            if left[number] > 0:
                left[number] -= 1
                hand_on(rows, number, asked_by, gives_up)
                return None
            for other in hours_of(rows, number):
                if other not in gives_up:
                    gives_up[other] = number
                    waiting.append(other)
    # Each offer of theirs has given all its gathers to these hours, or serves at each of them already.
    return sorted(list(gives_up))


def unused_at(offers, rows, hour):
    """The numbers of the offers of an hour that serve nobody then."""
    return [number for number, (first, last, gathers) in enumerate(offers)
            if first <= hour < last and number not in rows[hour]]


def hours_of(rows, number):
    """The hours at which an offer serves."""
    return [hour for hour, row in enumerate(rows) if number in row]


def hand_on(rows, number, asked_by, gives_up):
    """Gives an offer to the hour that asked for it, what that one gives up to the next, back to the first."""
    given = number
    while given is not None:
        hour = asked_by[given]
        rows[hour].append(given)
        given = gives_up[hour]
        if given is not None:
            rows[hour].remove(given)
