"""A hall for the tests of the book, its accounts and its texts."""

import random

from potround.book import Book

PALETTE = (
    (("amber", 2, 3, 9), ("blue", 1, 0, 4), ("clear", 3, 2, 20)),
    (("amber", "blue", 4), ("amber", "clear", None), ("blue", "amber", 1), ("clear", "amber", 0)),
)
KINDS = (("bowl", 3, 6), ("cup", 1, 2), ("jug", 2, 99))
TEAMS = (("ann", 3), ("bob", 1))
POTS = ("north", "south")


def made(slots=12, entries=()):
    """A Book of this hall with these (deed, hour) entered."""
    book = Book(PALETTE, KINDS, TEAMS, POTS, slots)
    for deed, hour in entries:
        book.enter(deed, hour)
    return book


def random_deed(rng, odd=0.03):
    """A deed of this hall, now and then with a name that isn't there."""
    pot = rng.choice(POTS) if rng.random() > odd else "west"
    word = rng.choice(["fill"] * 20 + ["wash"] * 5 + ["empty"] * 8 + ["gather"] * 25 + ["break"] + ["new"] * 4)
    if word == "fill":
        return (word, pot, rng.choice(["amber", "blue", "clear"]) if rng.random() > odd else "green")
    if word == "gather":
        team = rng.choice(["ann", "ann", "bob"]) if rng.random() > odd else "eve"
        kind = rng.choice(["bowl", "cup", "jug"]) if rng.random() > odd else "dish"
        return (word, team, pot, kind, rng.choice([1, 1, 1, 2, 3, 4, 9, 20]))
    if word == "wash":
        return (word, pot, rng.choice([0, 1, 2, 3, 4, 5]))
    if word == "new":
        return (word, pot, rng.choice([0, 1, 5]))
    return (word, pot)


def random_book(seed, many, hours=60, slots=6):
    """A Book with so many entries, at any hours of these."""
    rng = random.Random(seed)
    return made(slots, [(random_deed(rng), rng.randrange(hours)) for _ in range(many)])
