"""What is promised over the whole program."""

import copy
import importlib
import inspect
import random
import unittest

from potround.accounts import Account
from potround.breaking import broken
from potround.cooling import bound_by, most_cooled, shows_cooled
from potround.desk import run
from potround.errors import BadRow, BadTally, Full, HallError, Never, NoSuch
from potround.gathercheck import shows_lack, shows_rows
from potround.gathering import served
from potround.palettes import is_kinds, is_palette, wash_for
from potround.texts import book_from, book_text
from potround.turns import fault_of, is_turns
from tests.hall import KINDS, PALETTE, POTS, made, random_book, random_deed
from tests.test_accounts import answers
from tests.test_language import INTERFACE, METHODS

# The arguments of all functions and classes, as the document writes them.
ARGUMENTS = {
    "errors": {"Never": "ahead, behind", "Full": "slots", "BadRow": "row", "NoSuch": "what, name"},
    "palettes": {"is_palette": "thing", "is_kinds": "thing", "colour_row": "palette, colour",
                 "wash_for": "palette, ahead, behind", "ready_at": "palette, colour, at=0"},
    "tallies": {"tally_of": "hours", "tally_hours": "text", "both_tally": "one, other", "either_tally": "one, other",
                "turned_tally": "tally, by"},
    "ordering": {"washing_of": "palette, row, first=None", "least_washing": "palette, some, first=None"},
    "turns": {"is_turns": "palette, thing", "fault_of": "palette, turns", "state_at": "palette, turns, hour",
              "stretches": "palette, turns, first, last", "hours_in": "palette, turns, word, first=0, last=24",
              "spare_of": "palette, turns, number"},
    "rounds": {"is_rows": "palette, thing", "steps_of": "palette, rows"},
    "timetables": {"Timetable": "times, length", "keeps": "palette, rows, timetable",
                   "is_ring": "palette, rows, length, thing"},
    "endless": {"timed": "palette, rows, length", "shortest": "palette, rows"},
    "rounding": {"round_state": "palette, rows, timetable, pot, hour", "turns_of": "palette, rows, timetable, pot, often",
                 "glass_in": "palette, rows, timetable, colour, hour"},
    "breaking": {"broken": "palette, turns, hour, warm=24", "shows_broken": "palette, turns, hour, warm, thing",
                 "last_warm": "palette, turns, hour, number"},
    "gathering": {"served": "offers, wants"},
    "gathercheck": {"shows_rows": "offers, wants, thing", "shows_lack": "offers, wants, thing"},
    "working": {"offers_of": "palette, pots, colour", "wants_of": "teams, colour, hours=60",
                "worked_by": "palette, pots, teams"},
    "sharing": {"shared": "crews, orders", "shows_share": "crews, orders, thing", "lack_by": "crews, orders, rank",
                "wanted_of": "kinds, wanted, colour"},
    "cooling": {"in_at": "pieces, hour", "most_in": "pieces", "slotted": "pieces", "most_cooled": "pieces, slots",
                "bound_by": "pieces, slots, hours", "shows_cooled": "pieces, slots, thing"},
    "tunnels": {"Tunnel": "slots, hour=0"},
    "deeds": {"is_deed": "thing"},
    "book": {"Book": "palette, kinds, teams, pots, slots=12"},
    "accounts": {"Account": "book, hour"},
    "texts": {"book_text": "book", "book_from": "text"},
    "desk": {"run": "text"},
}
METHOD_ARGUMENTS = {
    "timetables.Timetable": {"pair": "number, often=0"},
    "tunnels.Tunnel": {"enter": "name, cool=8", "tick": "many=1", "inside": "", "now": "", "slot_of": "name"},
    "book.Book": {"enter": "deed, hour=0", "put_right": "number, deed, hour", "strike": "number", "undo": "", "entries": "",
                  "told_times": "", "as_told": "many", "twin": ""},
    "accounts.Account": {"rows": "", "voids": "", "state": "pot", "glass": "pot", "pieces": "", "tunnel": "",
                         "sums": "colour", "lacking": "orders"},
}


def written(signature):
    """A signature's arguments as the document writes them, an object's own left out."""
    return ", ".join([str(each) for each in signature.parameters.values() if each.name != "self"])


class Interface(unittest.TestCase):
    def test_arguments(self):
        for stem, told in ARGUMENTS.items():
            module = importlib.import_module("potround." + stem)
            for name, arguments in told.items():
                self.assertEqual(written(inspect.signature(getattr(module, name))), arguments, name)

    def test_arguments_of_methods(self):
        for path, told in METHOD_ARGUMENTS.items():
            stem, name = path.split(".")
            owner = getattr(importlib.import_module("potround." + stem), name)
            for method, arguments in told.items():
                self.assertEqual(written(inspect.signature(owner.__dict__[method])), arguments, (name, method))

    def test_all_are_looked_at(self):
        for stem, names in INTERFACE.items():
            self.assertEqual(set(names) - set(ARGUMENTS[stem]) - {"HallError", "BadTally"}, set(), stem)
        for path, told in METHOD_ARGUMENTS.items():
            plain = [method for method in METHODS[path.split(".")[1]] if not method.startswith("__")]
            self.assertEqual(sorted(told), sorted(plain))

    def test_errors(self):
        self.assertEqual(HallError.__bases__, (ValueError,))
        for error in (BadTally, Never, Full, BadRow):
            self.assertEqual(error.__bases__, (HallError,))
        self.assertEqual(NoSuch.__bases__, (LookupError,))
        self.assertEqual(BadRow(row=3).row, 3)
        self.assertEqual((NoSuch(what="entry", name=4).what, NoSuch(what="entry", name=4).name), ("entry", 4))

    def test_the_hall_of_the_tests_is_one(self):
        self.assertTrue(is_palette(PALETTE) and is_kinds(KINDS))


class Anew(unittest.TestCase):
    """Behind any deeds of the book, told in whatever order, all is as of a book made anew."""

    def told(self, book):
        return [answers(Account(book, hour)) for hour in (0, 7, 20, 60, 9999)]

    def wander(self, rng, wanted):
        """A Book that comes to the wanted entries, (hour, deed) by their numbers, by many other deeds."""
        book = made(6)
        for hour, deed in wanted:
            while rng.random() < 0.3:
                book.enter(random_deed(rng), rng.randrange(60))
                book.undo()
            book.enter(random_deed(rng), rng.randrange(60))
            if rng.random() < 0.2:
                book.strike(rng.randrange(len(book)))
                book.undo()
        for number in rng.sample(range(len(wanted)), len(wanted)):
            book.put_right(number, random_deed(rng), rng.randrange(60))
            if rng.random() < 0.3:
                book.undo()
            hour, deed = wanted[number]
            book.put_right(number, deed, hour)
        book.enter(random_deed(rng), 3)
        book.strike(len(wanted))
        return book

    def test_by_deeds_in_several_orders(self):
        rng = random.Random(11)
        for _ in range(12):
            wanted = [(rng.randrange(60), random_deed(rng)) for _ in range(40)]
            plain = made(6, [(deed, hour) for hour, deed in wanted])
            told = self.told(plain)
            for _ in range(3):
                book = self.wander(rng, wanted)
                self.assertEqual(book, plain)
                self.assertEqual(self.told(book), told)
                self.assertEqual(self.told(book.twin()), told)

    def test_entered_in_whatever_order(self):
        # At unlike hours the order of entering is nothing but the numbers.
        rng = random.Random(12)
        for _ in range(12):
            wanted = [(hour, random_deed(rng)) for hour in range(0, 80, 2)]
            told = [self.without_numbers(Account(made(6, [(deed, hour) for hour, deed in order]), 200))
                    for order in (wanted, wanted[::-1], rng.sample(wanted, len(wanted)))]
            self.assertEqual(told[0], told[1])
            self.assertEqual(told[0], told[2])

    def without_numbers(self, account):
        glass = [account.glass(pot) for pot in POTS]
        return ([row[:1] + row[2:6] for row in account.rows()], [row[::2] for row in account.voids()],
                [row and row[:2] for row in glass], [account.state(pot) for pot in POTS], account.pieces(), account.tunnel(),
                [account.sums(colour) for colour in ("amber", "blue", "clear", "")])

    def test_undone_step_by_step(self):
        rng = random.Random(13)
        book, tolds = made(6), []
        for _ in range(40):
            tolds.append((book.entries(), self.told(book)))
            way = rng.random()
            numbers = [number for hour, number, deed in book.entries()]
            if way < 0.6 or not numbers:
                book.enter(random_deed(rng), rng.randrange(60))
            elif way < 0.8:
                book.put_right(rng.choice(numbers), random_deed(rng), rng.randrange(60))
            else:
                book.strike(rng.choice(numbers))
        for many in range(40):
            self.assertEqual(self.told(book.as_told(many)), tolds[many][1])
        for entries, told in tolds[::-1]:
            self.assertIs(book.undo(), True)
            self.assertEqual(book.entries(), entries)
            self.assertEqual(self.told(book), told)
        self.assertIs(book.undo(), False)

    def test_by_way_of_its_text(self):
        for seed in range(20):
            book = random_book(seed, 50)
            again = book_from(book_text(book))
            for hour in (0, 20, 9999):
                self.assertEqual(self.without_numbers(Account(again, hour)), self.without_numbers(Account(book, hour)))


class Spoilt(unittest.TestCase):
    """No colour follows where it would spoil but behind its washing; what is filled without it is told streaked."""

    def test_of_random_books(self):
        both = set()
        for seed in range(60):
            book = random_book(seed, 120, 150)
            last, washed = {}, {}
            for hour, number, word, pot, many, colour, source in Account(book, 9999).rows():
                deed = [entry[2] for entry in book.entries() if entry[1] == number][0]
                if word == "new":
                    last[pot] = None
                elif word == "wash":
                    washed[pot] = washed.get(pot, 0) + deed[2]
                elif word == "fill":
                    wash = wash_for(PALETTE, last.get(pot), deed[2])
                    spoilt = wash is None or washed.get(pot, 0) < wash
                    both.add((spoilt, last.get(pot) is None))
                    self.assertEqual(colour, "" if spoilt else deed[2])
                    last[pot], washed[pot] = deed[2], 0
        self.assertEqual(both, {(True, False), (False, False), (False, True)})


class HandedInAgain(unittest.TestCase):
    def test_what_was_told(self):
        pieces = [(0, 9), (1, 2), (3, 2), (3, 9)]
        numbers, hours = most_cooled(pieces, 1)
        self.assertIs(shows_cooled(pieces, 1, numbers), True)
        self.assertEqual(bound_by(pieces, 1, hours), len(numbers))
        self.assertIs(shows_rows([(0, 2, 1), (0, 1, 1)], [1, 1], served([(0, 2, 1), (0, 1, 1)], [1, 1])[0]), True)
        self.assertIs(shows_lack([(0, 9, 1)], [1, 1], served([(0, 9, 1)], [1, 1])[1]), True)
        ended, lost, behind, moved = broken(PALETTE, [(0, "amber", 5, 6), (10, "blue", 11, 12)], 3, 20)
        self.assertIs(is_turns(PALETTE, behind), True)
        self.assertIsNone(fault_of(PALETTE, behind))

    def test_a_told_book(self):
        book = random_book(3, 30)
        self.assertEqual(run(book_text(book)), [])
        other = made(6)
        for hour, number, deed in sorted(book.entries(), key=lambda entry: entry[1]):
            other.enter(deed, hour)
        self.assertEqual(other, book)
        told = Account(book, 60)
        self.assertEqual(told.lacking(told.pieces()), [0] * len(told.pieces()))

    def test_nothing_handed_in_is_changed(self):
        orders = [("cup", "amber", 2), ("cup", "", 2)]
        before = copy.deepcopy(orders)
        Account(random_book(3, 30), 60).lacking(orders)
        self.assertEqual(orders, before)


if __name__ == "__main__":
    unittest.main()
