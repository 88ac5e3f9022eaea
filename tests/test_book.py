import random
import unittest

from potround.accounts import Account
from potround.book import Book
from potround.errors import HallError, NoSuch
from tests.hall import KINDS, PALETTE, POTS, TEAMS, made, random_deed
from tests.things import check_like, odd_things

FILL = ("fill", "north", "amber")
WASH = ("wash", "south", 4)
EMPTY = ("empty", "north")
GATHER = ("gather", "ann", "north", "cup", 2)


class Slow:
    """The document's words: all that was told is kept, and told anew for each question."""

    def __init__(self):
        self.told = []

    def now(self):
        """A pair: the entries that stand, and the number of the next one."""
        stands, next_number = {}, 0
        for word, number, deed, hour in self.told:
            if word == "enter":
                stands[next_number] = (hour, next_number, deed)
                next_number += 1
            elif word == "right":
                stands[number] = (hour, number, deed)
            else:
                del stands[number]
        return sorted(stands.values()), next_number

    def stands(self, number):
        return number in [own for hour, own, deed in self.now()[0]]


class Enter(unittest.TestCase):
    def test_numbers(self):
        book = made()
        self.assertEqual(book.enter(FILL), 0)
        self.assertEqual(book.enter(WASH, 9), 1)
        self.assertEqual(book.enter(FILL, 3), 2)
        self.assertEqual(book.entries(), [(0, 0, FILL), (3, 2, FILL), (9, 1, WASH)])

    def test_hour_left_out(self):
        book = made()
        book.enter(FILL)
        book.enter(deed=WASH)
        book.enter(hour=9999, deed=EMPTY)
        self.assertEqual(book.entries(), [(0, 0, FILL), (0, 1, WASH), (9999, 2, EMPTY)])

    def test_behind_strikes(self):
        book = made()
        book.enter(FILL)
        book.enter(WASH)
        book.strike(1)
        self.assertEqual(book.enter(EMPTY), 2)
        book.strike(0)
        book.strike(2)
        self.assertEqual(book.entries(), [])
        self.assertEqual(book.enter(EMPTY), 3)

    def test_behind_undoings(self):
        book = made()
        book.enter(FILL)
        book.enter(WASH)
        book.undo()
        self.assertEqual(book.enter(EMPTY), 1)
        self.assertEqual(book.enter(EMPTY), 2)
        book.undo()
        book.undo()
        book.undo()
        self.assertEqual(book.enter(GATHER), 0)

    def test_behind_an_undone_strike(self):
        book = made()
        book.enter(FILL)
        book.enter(WASH)
        book.strike(1)
        book.undo()
        self.assertEqual(book.enter(EMPTY), 2)
        book.put_right(0, GATHER, 5)
        self.assertEqual(book.enter(EMPTY), 3)

    def test_a_hundred_and_twenty(self):
        book = made()
        self.assertEqual([book.enter(FILL, 200 - number) for number in range(120)], list(range(120)))
        self.assertEqual(len(book), 120)
        self.assertEqual(book.told_times(), 120)
        self.assertEqual(book.entries(), [(81 + at, 119 - at, FILL) for at in range(120)])
        for number in range(0, 120, 2):
            book.strike(number)
        self.assertEqual(len(book), 60)
        self.assertEqual(len(book.twin()), 60)
        self.assertEqual([book.undo() for _ in range(181)], [True] * 180 + [False])
        self.assertEqual(len(book), 0)

    def test_deeds_are_not_asked_whether_they_can_be_done(self):
        book = made()
        self.assertEqual(book.enter(("fill", "west", "green"), 4), 0)
        self.assertEqual(book.entries(), [(4, 0, ("fill", "west", "green"))])


class PutRightAndStrike(unittest.TestCase):
    def refused(self, book, number):
        before = (book.entries(), book.told_times(), len(book))
        for ask in (lambda: book.put_right(number, EMPTY, 7), lambda: book.strike(number)):
            with self.assertRaises(NoSuch) as caught:
                ask()
            self.assertEqual((caught.exception.what, caught.exception.name), ("entry", number))
            self.assertIsInstance(caught.exception, LookupError)
            self.assertNotIsInstance(caught.exception, HallError)
            self.assertEqual((book.entries(), book.told_times(), len(book)), before)

    def test_put_right(self):
        book = made(entries=[(FILL, 0), (WASH, 5)])
        self.assertIsNone(book.put_right(0, EMPTY, 7))
        self.assertEqual(book.entries(), [(5, 1, WASH), (7, 0, EMPTY)])
        self.assertIsNone(book.put_right(hour=1, number=0, deed=GATHER))
        self.assertEqual(book.entries(), [(1, 0, GATHER), (5, 1, WASH)])
        self.assertEqual(len(book), 2)

    def test_strike(self):
        book = made(entries=[(FILL, 0), (WASH, 5), (EMPTY, 5)])
        self.assertIsNone(book.strike(1))
        self.assertEqual(book.entries(), [(0, 0, FILL), (5, 2, EMPTY)])
        self.assertIsNone(book.strike(number=0))
        self.assertEqual(book.entries(), [(5, 2, EMPTY)])
        self.assertEqual(len(book), 1)

    def test_of_numbers_that_never_were(self):
        self.refused(made(), 0)
        book = made(entries=[(FILL, 0), (WASH, 5)])
        for number in (2, 3, 10 ** 9, -1):
            self.refused(book, number)

    def test_of_numbers_that_are_gone(self):
        book = made(entries=[(FILL, 0), (WASH, 5)])
        book.strike(0)
        self.refused(book, 0)
        book.undo()
        book.put_right(0, EMPTY, 2)
        book.strike(0)
        self.refused(book, 0)

    def test_of_numbers_that_were_undone(self):
        book = made(entries=[(FILL, 0), (WASH, 5)])
        book.undo()
        self.refused(book, 1)
        book.strike(0)
        book.undo()
        book.strike(0)
        self.refused(book, 0)

    def test_number_tells_not_the_place(self):
        book = made(entries=[(FILL, 9), (WASH, 5)])
        book.strike(0)
        self.assertEqual(book.entries(), [(5, 1, WASH)])


class Undo(unittest.TestCase):
    def test_none(self):
        book = made()
        self.assertIs(book.undo(), False)
        self.assertIs(book.undo(), False)
        self.assertEqual(book.entries(), [])
        self.assertEqual(book.enter(FILL), 0)

    def test_each_of_the_three(self):
        book = made(entries=[(FILL, 0), (WASH, 5)])
        whole = book.entries()
        book.enter(EMPTY, 2)
        self.assertIs(book.undo(), True)
        self.assertEqual(book.entries(), whole)
        book.put_right(0, GATHER, 8)
        self.assertIs(book.undo(), True)
        self.assertEqual(book.entries(), whole)
        book.strike(1)
        self.assertIs(book.undo(), True)
        self.assertEqual(book.entries(), whole)
        self.assertEqual(book.told_times(), 2)

    def test_several(self):
        book = made(entries=[(FILL, 0)])
        book.put_right(0, WASH, 1)
        book.put_right(0, EMPTY, 2)
        book.strike(0)
        self.assertEqual(book.entries(), [])
        self.assertIs(book.undo(), True)
        self.assertEqual(book.entries(), [(2, 0, EMPTY)])
        self.assertIs(book.undo(), True)
        self.assertEqual(book.entries(), [(1, 0, WASH)])
        self.assertIs(book.undo(), True)
        self.assertEqual(book.entries(), [(0, 0, FILL)])
        self.assertIs(book.undo(), True)
        self.assertIs(book.undo(), False)

    def test_refused_ones_are_passed_over(self):
        book = made(entries=[(FILL, 0)])
        self.assertRaises(NoSuch, book.strike, 4)
        self.assertRaises(NoSuch, book.put_right, 4, WASH, 1)
        self.assertIs(book.undo(), True)
        self.assertIs(book.undo(), False)
        self.assertEqual(len(book), 0)


class ToldTimes(unittest.TestCase):
    def test_counted(self):
        book = made()
        self.assertEqual(book.told_times(), 0)
        book.enter(FILL)
        book.put_right(0, WASH, 3)
        self.assertEqual(book.told_times(), 2)
        book.strike(0)
        self.assertEqual(book.told_times(), 3)
        self.assertRaises(NoSuch, book.strike, 0)
        self.assertEqual(book.told_times(), 3)
        book.undo()
        self.assertEqual(book.told_times(), 2)
        book.undo()
        book.undo()
        book.undo()
        self.assertEqual(book.told_times(), 0)


class AsTold(unittest.TestCase):
    def book(self):
        book = made(slots=7, entries=[(FILL, 0), (WASH, 5)])
        book.put_right(0, EMPTY, 9)
        book.strike(1)
        book.enter(GATHER, 2)
        return book

    def test_each(self):
        told = [[], [(0, 0, FILL)], [(0, 0, FILL), (5, 1, WASH)], [(5, 1, WASH), (9, 0, EMPTY)], [(9, 0, EMPTY)],
                [(2, 2, GATHER), (9, 0, EMPTY)]]
        book = self.book()
        for many, entries in enumerate(told):
            earlier = book.as_told(many)
            self.assertIsInstance(earlier, Book)
            self.assertEqual(earlier.entries(), entries)
            self.assertEqual(earlier.told_times(), many)
            self.assertEqual((earlier.palette, earlier.kinds, earlier.teams, earlier.pots, earlier.slots),
                             (PALETTE, KINDS, TEAMS, POTS, 7))
        self.assertEqual(book.as_told(many=5), book)
        self.assertEqual(book.entries(), told[5])

    def test_can_be_undone(self):
        earlier = self.book().as_told(4)
        self.assertIs(earlier.undo(), True)
        self.assertEqual(earlier.entries(), [(5, 1, WASH), (9, 0, EMPTY)])
        self.assertEqual([earlier.undo() for _ in range(4)], [True, True, True, False])
        self.assertIs(self.book().as_told(0).undo(), False)

    def test_numbers_go_on(self):
        self.assertEqual(self.book().as_told(0).enter(FILL), 0)
        self.assertEqual(self.book().as_told(4).enter(FILL), 2)
        self.assertEqual(self.book().as_told(5).enter(FILL), 3)

    def test_told_on_apart(self):
        book = self.book()
        whole, half, twin = book.as_told(5), book.as_told(2), book.twin()
        book.enter(FILL, 4)
        whole.undo()
        half.strike(0)
        twin.put_right(2, WASH, 3)
        self.assertEqual(book.entries(), [(2, 2, GATHER), (4, 3, FILL), (9, 0, EMPTY)])
        self.assertEqual(whole.entries(), [(9, 0, EMPTY)])
        self.assertEqual(half.entries(), [(5, 1, WASH)])
        self.assertEqual(twin.entries(), [(3, 2, WASH), (9, 0, EMPTY)])
        self.assertEqual([each.told_times() for each in (book, whole, half, twin)], [6, 4, 3, 6])

    def test_undone_ones_are_not_among_them(self):
        book = made(entries=[(FILL, 0), (WASH, 5)])
        book.undo()
        book.enter(EMPTY, 3)
        self.assertEqual(book.as_told(2).entries(), [(0, 0, FILL), (3, 1, EMPTY)])

    def test_twin(self):
        book = self.book()
        twin = book.twin()
        self.assertIsNot(twin, book)
        self.assertEqual(twin, book)
        self.assertEqual(twin.told_times(), 5)
        self.assertEqual([twin.undo() for _ in range(6)], [True] * 5 + [False])
        self.assertEqual(len(book), 2)
        self.assertNotEqual(twin, book)
        self.assertEqual(made().twin(), made())

    def test_twin_of_a_twin(self):
        book = self.book()
        other = book.twin().twin().as_told(5)
        self.assertEqual(other, book)
        other.undo()
        self.assertEqual(other.entries(), book.as_told(4).entries())


class Fields(unittest.TestCase):
    def test_these(self):
        book = Book(PALETTE, KINDS, TEAMS, POTS, 60)
        self.assertEqual((book.palette, book.kinds, book.teams, book.pots, book.slots), (PALETTE, KINDS, TEAMS, POTS, 60))

    def test_slots_left_out(self):
        self.assertEqual(Book(PALETTE, KINDS, TEAMS, POTS).slots, 12)
        book = Book(pots=(), teams=(), kinds=KINDS, palette=PALETTE)
        self.assertEqual((book.teams, book.pots, book.slots), ((), (), 12))
        self.assertEqual(Book(PALETTE, KINDS, (), (), slots=0).slots, 0)


class Like(unittest.TestCase):
    def test_like_ones(self):
        check_like(self, made(), made(), True)
        check_like(self, made(entries=[(FILL, 0), (WASH, 5)]), made(entries=[(FILL, 0), (WASH, 5)]), True)

    def test_like_by_other_ways(self):
        book = made(entries=[(FILL, 0), (WASH, 5)])
        other = made(entries=[(EMPTY, 3)])
        other.undo()
        other.enter(EMPTY, 9)
        other.enter(WASH, 5)
        other.put_right(0, FILL, 0)
        other.enter(GATHER, 1)
        other.strike(2)
        check_like(self, book, other, True)

    def test_unlike(self):
        book = made(entries=[(FILL, 0), (WASH, 5)])
        check_like(self, book, made(), False)
        check_like(self, book, made(entries=[(FILL, 0), (WASH, 6)]), False)
        check_like(self, book, made(entries=[(FILL, 0), (EMPTY, 5)]), False)
        check_like(self, book, made(entries=[(WASH, 5), (FILL, 0)]), False)
        check_like(self, book, made(entries=[(FILL, 0), (WASH, 5), (WASH, 5)]), False)

    def test_unlike_fields(self):
        book = made()
        check_like(self, book, Book((PALETTE[0], ()), KINDS, TEAMS, POTS), False)
        check_like(self, book, Book(PALETTE, KINDS[:2], TEAMS, POTS), False)
        check_like(self, book, Book(PALETTE, KINDS, TEAMS[:1], POTS), False)
        check_like(self, book, Book(PALETTE, KINDS, TEAMS, POTS[:1]), False)
        check_like(self, book, Book(PALETTE, KINDS, TEAMS, POTS, 11), False)
        check_like(self, book, Book(PALETTE, KINDS, TEAMS, POTS, 12), True)

    def test_other_things(self):
        for other in odd_things()[:60] + [[], {}, object(), Book, (PALETTE, KINDS, TEAMS, POTS, 12), Account(made(), 0)]:
            check_like(self, made(), other, False)


class Entries(unittest.TestCase):
    def test_rising_and_own(self):
        book = made(entries=[(WASH, 5), (FILL, 0), (EMPTY, 5), (FILL, 4)])
        told = book.entries()
        self.assertEqual(told, [(0, 1, FILL), (4, 3, FILL), (5, 0, WASH), (5, 2, EMPTY)])
        self.assertIsNot(book.entries(), told)
        told.clear()
        self.assertEqual(len(book.entries()), 4)
        self.assertEqual(len(book), 4)
        self.assertEqual(made().entries(), [])

    def test_told_deeds_handed_in_again(self):
        book = made(entries=[(WASH, 5), (FILL, 0)])
        other = made()
        for hour, number, deed in book.entries():
            other.enter(deed, hour)
        self.assertEqual(other.entries(), [(0, 0, FILL), (5, 1, WASH)])

    def test_two_do_not_move_each_other(self):
        one, other = made(), made()
        one.enter(FILL)
        self.assertEqual(len(other), 0)
        self.assertIs(other.undo(), False)


class AgainstASlowReading(unittest.TestCase):
    def test_many_deeds(self):
        rng = random.Random(172)
        refused = 0
        for _ in range(60):
            book, slow = made(), Slow()
            for _ in range(50):
                word = rng.choice(["enter", "enter", "right", "strike", "undo"])
                number, deed, hour = rng.randrange(12), random_deed(rng), rng.randrange(9)
                if word == "enter":
                    self.assertEqual(book.enter(deed, hour), slow.now()[1])
                    slow.told.append((word, None, deed, hour))
                elif word == "undo":
                    self.assertIs(book.undo(), bool(slow.told))
                    slow.told = slow.told[:-1]
                elif not slow.stands(number):
                    refused += 1
                    with self.assertRaises(NoSuch):
                        book.strike(number) if word == "strike" else book.put_right(number, deed, hour)
                else:
                    book.strike(number) if word == "strike" else book.put_right(number, deed, hour)
                    slow.told.append((word, number, deed, hour))
                self.assertEqual(book.entries(), slow.now()[0])
                self.assertEqual(book.told_times(), len(slow.told))
            for many in range(len(slow.told) + 1):
                earlier = Slow()
                earlier.told = slow.told[:many]
                self.assertEqual(book.as_told(many).entries(), earlier.now()[0])
        self.assertGreater(refused, 100)


if __name__ == "__main__":
    unittest.main()
