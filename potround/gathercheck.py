"""Whether things of any make show that wants are served, or that they can't be."""

from potround.shapes import are_rising, is_number, is_row


def shows_rows(offers, wants, thing):
    """Whether it is a list with the rising list of offers' numbers for each hour, by which all wants are served."""
    return (isinstance(thing, list) and len(thing) == len(wants)
            and all([serves_hour(offers, wants, hour, row) for hour, row in enumerate(thing)])
            and all([often_in(thing, number) <= offer[2] for number, offer in enumerate(offers)]))


def serves_hour(offers, wants, hour, thing):
    """Whether it is a rising list of numbers of an hour's offers, as many as are wanted then."""
    return (are_rising(thing, 0, len(offers) - 1) and len(thing) == wants[hour]
            and all([is_in(offers[number], hour) for number in thing]))


def often_in(rows, number):
    """In how many rows a number stands."""
    return len([row for row in rows if number in row])


def shows_lack(offers, wants, thing):
    """Whether it is a pair (hour, hours): one of wants' hours, and hours up to it which want too much."""
    return (is_row(thing, 2) and is_number(thing[0], 0, len(wants) - 1) and are_rising(thing[1], 0, thing[0])
            and sum([wants[hour] for hour in thing[1]]) > most_served(offers, thing[1]))


def most_served(offers, hours):
    """How many wants the offers can serve at most at these hours."""
    return sum([min(offer[2], len([hour for hour in hours if is_in(offer, hour)])) for offer in offers])


def is_in(offer, hour):
    """Whether an hour is one of the offer's."""
    return offer[0] <= hour < offer[1]
