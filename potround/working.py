"""Teams that work the glass of several pots' turns."""

from potround.gathering import served
from potround.palettes import colour_row


def offers_of(palette, pots, colour):
    """The rising list of (pot, number, begin, end, gathers) of all turns of a colour."""
    return [(pot, number, turn[2], turn[3], colour_row(palette, colour)[3])
            for pot, turns in enumerate(pots) for number, turn in enumerate(turns) if turn[1] == colour]


def wants_of(teams, colour, hours=60):
    """How many teams want glass of a colour at each hour from 0 to ahead of hours."""
    return [len(wanting(teams, colour, hour)) for hour in range(hours)]


def worked_by(palette, pots, teams):
    """A pair: the rising list of (hour, team, pot, number) and None, or None and (hour, colour, hours)."""
    hours = max([team[3] for team in teams], default=0)
    rows = []
    lacks = []
    for colour in sorted(set([team[1] for team in teams])):
        offers = offers_of(palette, pots, colour)
        numbers, lack = served([offer[2:] for offer in offers], wants_of(teams, colour, hours))
        if lack is None:
            rows.extend(rows_of(teams, colour, offers, numbers))
        else:
            lacks.append((lack[0], colour, lack[1]))
    if lacks:
        return (None, min(lacks))
    return (sorted(rows), None)


def wanting(teams, colour, hour):
    """The rising list of the teams that want glass of a colour at an hour."""
    return sorted([team for team, wanted, first, last in teams if wanted == colour and first <= hour < last])


def rows_of(teams, colour, offers, numbers):
    """The list of (hour, team, pot, number) by the offers' numbers for each hour."""
    return [(hour, team, offers[at][0], offers[at][1])
            for hour, row in enumerate(numbers) for team, at in zip(wanting(teams, colour, hour), row)]
