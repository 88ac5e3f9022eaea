import copy
import random
import unittest

from potround.accounts import Account
from potround.book import Book
from potround.errors import NoSuch
from tests.hall import KINDS, PALETTE, POTS, TEAMS, made, random_book
from tests.slowhall import SlowAccount

# Amber is full 2 hours behind its filling and ready 5 behind it, with 9 gathers; blue 1 and 1, with 4; clear 3 and 5,
# with 20. Amber to blue takes 4 hours of washing, to clear never; blue to amber 1. Bowls have rank 3 and cool 6 hours,
# cups rank 1 and 2 hours, jugs rank 2 and 99 hours. Ann has rank 3, bob 1.
FILL = ("fill", "north", "amber")


def account(hour, *entries, slots=12):
    return Account(made(slots, entries), hour)


def gather(many=1, kind="cup", team="ann", pot="north"):
    return ("gather", team, pot, kind, many)


class Entries(unittest.TestCase):
    def test_none(self):
        told = account(7)
        self.assertEqual((told.rows(), told.voids(), told.pieces(), told.tunnel()), ([], [], [], []))
        for pot in POTS:
            self.assertEqual(told.state(pot), "out")
            self.assertIsNone(told.glass(pot))
        self.assertEqual(told.sums("amber"), (0, 0, 0, 0, 0))
        self.assertEqual(told.lacking([]), [])

    def test_up_to_the_hour(self):
        entries = [(FILL, 5), (("fill", "south", "blue"), 6)]
        self.assertEqual(account(4, *entries).rows(), [])
        self.assertEqual(account(5, *entries).rows(), [(5, 0, "fill", "north", 9, "amber", 0)])
        self.assertEqual(len(account(6, *entries).rows()), 2)
        self.assertEqual(len(account(10 ** 6, *entries).rows()), 2)
        self.assertEqual(account(9999, (FILL, 9999)).state("north"), "filled")

    def test_voids_up_to_the_hour(self):
        self.assertEqual(account(4, (("empty", "north"), 5)).voids(), [])
        self.assertEqual(account(5, (("empty", "north"), 5)).voids(), [(5, 0, "none")])

    def test_told_late(self):
        told = account(9, (gather(2), 8), (FILL, 3))
        self.assertEqual(told.rows(), [(3, 1, "fill", "north", 9, "amber", 1),
                                       (8, 0, "gather", "north", 2, "amber", 1)])
        self.assertEqual(told.voids(), [])

    def test_one_hour_by_numbers(self):
        told = account(5, (("empty", "north"), 5), (FILL, 5), (("break", "north"), 5), (("empty", "north"), 5))
        self.assertEqual(told.rows(), [(5, 1, "fill", "north", 9, "amber", 1), (5, 2, "break", "north", 9, "amber", 1)])
        self.assertEqual(told.voids(), [(5, 0, "none"), (5, 3, "broken")])

    def test_put_right_and_struck(self):
        book = made(12, [(FILL, 0), (gather(2), 5), (gather(3), 6)])
        book.put_right(1, gather(4), 2)
        book.strike(2)
        self.assertEqual(Account(book, 9).voids(), [(2, 1, "cold")])
        book.undo()
        self.assertEqual(Account(book, 9).pieces(), [("cup", "amber", 3)])

    def test_later_deeds_change_nothing(self):
        book = made(12, [(FILL, 0), (gather(2), 5), (gather(30), 6)])
        told = Account(book, 9)
        before = answers(told)
        book.enter(("break", "north"), 1)
        book.put_right(0, ("fill", "north", "clear"), 0)
        book.strike(1)
        self.assertEqual(answers(told), before)
        while book.undo():
            self.assertEqual(answers(told), before)
        self.assertNotEqual(answers(Account(book, 9)), before)

    def test_the_book_is_not_changed(self):
        book = made(12, [(FILL, 0), (gather(2), 5), (gather(30), 6)])
        twin = book.twin()
        told = Account(book, 9)
        answers(told)
        self.assertEqual(book, twin)
        self.assertEqual(book.told_times(), 3)

    def test_by_names(self):
        told = Account(hour=5, book=made(12, [(FILL, 0)]))
        self.assertEqual(told.state(pot="north"), "ready")
        self.assertEqual(told.glass(pot="north"), ("amber", 9, 0))
        self.assertEqual(told.sums(colour="amber"), (9, 0, 0, 0, 9))
        self.assertEqual(told.lacking(orders=[("cup", "amber", 1)]), [1])


def answers(told):
    """All that an account tells."""
    return (told.rows(), told.voids(), [told.state(pot) for pot in POTS], [told.glass(pot) for pot in POTS],
            told.pieces(), told.tunnel(), [told.sums(colour) for colour in ("amber", "blue", "clear", "", "green")],
            told.lacking([("cup", "amber", 5), ("cup", "", 9), ("cup", "amber", 5), ("jug", "blue", 1)]))


class Void(unittest.TestCase):
    def void(self, word, *entries, slots=12):
        """The last entry is void by that word, the others aren't, and it changes nothing."""
        hour, number = entries[-1][1], len(entries) - 1
        told = account(hour, *entries, slots=slots)
        self.assertEqual(told.voids(), [(hour, number, word)])
        ahead = account(hour, *entries[:-1], slots=slots)
        self.assertEqual(ahead.voids(), [])
        self.assertEqual((told.rows(),) + answers(told)[2:], (ahead.rows(),) + answers(ahead)[2:])

    def done(self, *entries, slots=12):
        told = account(entries[-1][1], *entries, slots=slots)
        self.assertEqual(told.voids(), [])
        self.assertEqual(len(told.rows()), len(entries))

    def test_name_of_each(self):
        self.void("name", (("fill", "west", "amber"), 3))
        self.void("name", (("fill", "north", "green"), 3))
        self.void("name", (("wash", "west", 3), 3))
        self.void("name", (("empty", "west"), 3))
        self.void("name", (("break", "west"), 3))
        self.void("name", (("new", "west", 3), 3))
        for deed in (gather(pot="west"), gather(team="eve"), gather(kind="dish")):
            self.void("name", (FILL, 0), (deed, 9))

    def test_name_ahead_of_all(self):
        broken = [(FILL, 0), (("break", "north"), 1)]
        self.void("name", *broken, (("fill", "north", "green"), 3))
        self.void("name", *broken, (gather(team="eve"), 3))
        self.void("name", *broken, (gather(kind="dish"), 3))
        self.void("name", (("fill", "north", "green"), 0))
        self.void("name", (FILL, 0), (gather(999, team="eve"), 1))

    def test_names_of_another_sort(self):
        self.void("name", (("fill", "amber", "north"), 3))
        self.void("name", (FILL, 0), (("gather", "north", "ann", "cup", 1), 9))
        self.void("name", (FILL, 0), (("gather", "cup", "north", "ann", 1), 9))

    def test_fill(self):
        self.void("broken", (("break", "north"), 0), (FILL, 0))
        self.void("busy", (("wash", "north", 3), 4), (FILL, 6))
        self.done((("wash", "north", 3), 4), (FILL, 7))
        self.void("busy", (("break", "north"), 0), (("new", "north", 3), 4), (FILL, 6))
        self.done((("break", "north"), 0), (("new", "north", 3), 4), (FILL, 7))
        self.void("glass", (FILL, 0), (FILL, 0))
        self.void("glass", (FILL, 0), (("fill", "north", "blue"), 50))
        self.done((FILL, 0), (("fill", "south", "amber"), 0))

    def test_wash(self):
        self.void("broken", (("break", "north"), 0), (("wash", "north", 0), 0))
        self.void("busy", (("wash", "north", 3), 4), (("wash", "north", 1), 6))
        self.done((("wash", "north", 3), 4), (("wash", "north", 1), 7))
        self.void("busy", (("break", "north"), 0), (("new", "north", 3), 4), (("wash", "north", 1), 6))
        self.void("glass", (FILL, 0), (("wash", "north", 1), 0))
        self.void("glass", (FILL, 0), (gather(8), 5), (("wash", "north", 1), 5))
        self.done((FILL, 0), (gather(9), 5), (("wash", "north", 1), 5))
        self.done((("wash", "north", 0), 4), (("wash", "north", 999), 4))
        self.void("busy", (("wash", "north", 999), 4), (("wash", "north", 0), 1002))
        self.done((("wash", "north", 999), 4), (("wash", "north", 0), 1003))

    def test_broken_ahead_of_the_others(self):
        # What was busy or had glass is broken, and neither any more.
        self.void("broken", (FILL, 0), (("break", "north"), 1), (FILL, 1))
        self.void("broken", (("wash", "north", 9), 0), (("break", "north"), 1), (("wash", "north", 1), 1))
        self.void("broken", (FILL, 0), (("break", "north"), 1), (("empty", "north"), 1))
        self.void("broken", (FILL, 0), (("break", "north"), 1), (gather(), 9))

    def test_empty(self):
        self.void("broken", (("break", "north"), 0), (("empty", "north"), 0))
        self.void("none", (("empty", "north"), 0))
        self.void("none", (FILL, 0), (("empty", "north"), 1), (("empty", "north"), 1))
        self.void("none", (FILL, 0), (gather(9), 5), (("empty", "north"), 5))
        self.void("none", (("wash", "north", 5), 0), (("empty", "north"), 1))
        self.done((FILL, 0), (("empty", "north"), 0))
        self.done((FILL, 0), (gather(8), 5), (("empty", "north"), 5))

    def test_gather(self):
        self.void("broken", (("break", "north"), 0), (gather(), 0))
        self.void("none", (gather(), 0))
        self.void("none", (("wash", "north", 5), 0), (gather(), 1))
        self.void("cold", (FILL, 3), (gather(), 7))
        self.done((FILL, 3), (gather(), 8))
        self.void("rank", (FILL, 0), (gather(1, "bowl", "bob"), 5))
        self.void("rank", (FILL, 0), (gather(1, "jug", "bob"), 5))
        self.done((FILL, 0), (gather(1, "cup", "bob"), 5))
        self.done((FILL, 0), (gather(1, "bowl", "ann"), 5))
        self.done((FILL, 0), (gather(1, "jug", "ann"), 5))
        self.void("less", (FILL, 0), (gather(10), 5))
        self.done((FILL, 0), (gather(9), 5))
        self.void("less", (FILL, 0), (gather(5), 5), (gather(5), 5))
        self.done((FILL, 0), (gather(5), 5), (gather(4), 5))
        self.void("full", (FILL, 0), (gather(4), 5), slots=3)
        self.done((FILL, 0), (gather(3), 5), slots=3)
        self.void("full", (FILL, 0), (gather(3), 5), (gather(1), 6), slots=3)
        self.void("full", (FILL, 0), (gather(1), 5), slots=0)

    def test_gather_first_of_several(self):
        self.void("none", (gather(999, "bowl", "bob"), 0), slots=0)
        self.void("cold", (FILL, 0), (gather(999, "bowl", "bob"), 4), slots=0)
        self.void("rank", (FILL, 0), (gather(999, "bowl", "bob"), 5), slots=0)
        self.void("less", (FILL, 0), (gather(999, "bowl", "ann"), 5), slots=0)
        self.void("full", (FILL, 0), (gather(9, "bowl", "ann"), 5), slots=8)
        self.void("cold", (FILL, 0), (gather(1, "bowl", "bob"), 4))

    def test_break_and_new(self):
        self.void("broken", (("break", "north"), 0), (("break", "north"), 0))
        self.void("whole", (("new", "north", 3), 0))
        self.void("whole", (FILL, 0), (("new", "north", 3), 3))
        self.void("whole", (("break", "north"), 0), (("new", "north", 9), 1), (("new", "north", 3), 3))
        self.done((("break", "north"), 0), (("new", "north", 9), 1), (("break", "north"), 2), (("new", "north", 0), 2))
        self.done((("break", "north"), 0), (("break", "south"), 0))

    def test_of_like_hours_the_later_ones_see_the_earlier(self):
        told = account(5, (FILL, 0), (gather(6), 5), (gather(6), 5), (gather(3), 5), (gather(1), 5))
        self.assertEqual(told.voids(), [(5, 2, "less"), (5, 4, "none")])

    def test_several_rise(self):
        told = account(9, (("empty", "north"), 7), (("empty", "north"), 2), (("new", "south", 1), 7), (gather(), 3))
        self.assertEqual(told.voids(), [(2, 1, "none"), (3, 3, "none"), (7, 0, "none"), (7, 2, "whole")])


class Streaked(unittest.TestCase):
    def colours(self, *entries, hour=9999):
        """The colours of all fills that were done, in order."""
        told = account(hour, *entries)
        self.assertEqual(told.voids(), [])
        return [row[5] for row in told.rows() if row[2] == "fill"]

    def run_of(self, *steps):
        """Colours filled one behind the other, numbers hours of washing between them."""
        entries, hour = [], 0
        for step in steps:
            if isinstance(step, int):
                entries.append((("wash", "north", step), hour))
                hour += step
            else:
                entries += [(("fill", "north", step), hour), (("empty", "north"), hour)]
        return self.colours(*entries)

    def test_without_washing(self):
        self.assertEqual(self.run_of("amber", "blue"), ["amber", ""])
        self.assertEqual(self.run_of("blue", "amber"), ["blue", ""])

    def test_where_no_row_tells_and_of_like_colours(self):
        self.assertEqual(self.run_of("blue", "clear"), ["blue", "clear"])
        self.assertEqual(self.run_of("clear", "blue"), ["clear", "blue"])
        self.assertEqual(self.run_of("clear", "amber"), ["clear", "amber"])
        self.assertEqual(self.run_of("amber", "amber"), ["amber", "amber"])

    def test_washings_too_short_and_long_enough(self):
        self.assertEqual(self.run_of("amber", 3, "blue"), ["amber", ""])
        self.assertEqual(self.run_of("amber", 4, "blue"), ["amber", "blue"])
        self.assertEqual(self.run_of("amber", 5, "blue"), ["amber", "blue"])
        self.assertEqual(self.run_of("blue", 0, "amber"), ["blue", ""])
        self.assertEqual(self.run_of("blue", 1, "amber"), ["blue", "amber"])

    def test_several_washings(self):
        self.assertEqual(self.run_of("amber", 2, 2, "blue"), ["amber", "blue"])
        self.assertEqual(self.run_of("amber", 2, 1, "blue"), ["amber", ""])
        self.assertEqual(self.run_of("amber", 1, 0, 1, 1, 1, "blue"), ["amber", "blue"])

    def test_washings_ahead_of_the_fill_ahead_do_not_count(self):
        self.assertEqual(self.run_of(9, "amber", "blue"), ["amber", ""])
        self.assertEqual(self.run_of("blue", 9, "amber", 3, "blue"), ["blue", "amber", ""])
        self.assertEqual(self.run_of("amber", 4, "blue", "amber"), ["amber", "blue", ""])

    def test_never(self):
        self.assertEqual(self.run_of("amber", "clear"), ["amber", ""])
        self.assertEqual(self.run_of("amber", 999, "clear"), ["amber", ""])

    def test_by_a_streaked_fill_ahead(self):
        # What counts is what the deed ahead names, though its glass was streaked.
        self.assertEqual(self.run_of("blue", "amber", "blue"), ["blue", "", ""])
        self.assertEqual(self.run_of("blue", "amber", 4, "blue"), ["blue", "", "blue"])
        self.assertEqual(self.run_of("amber", "blue", "blue"), ["amber", "", "blue"])
        self.assertEqual(self.run_of("amber", "blue", 1, "amber"), ["amber", "", "amber"])
        self.assertEqual(self.run_of("amber", "clear", "clear"), ["amber", "", "clear"])
        self.assertEqual(self.run_of("amber", "clear", "blue"), ["amber", "", "blue"])

    def test_not_of_a_new_pot(self):
        self.assertEqual(self.run_of("clear"), ["clear"])
        ahead = [(FILL, 0), (("break", "north"), 1), (("new", "north", 0), 1)]
        self.assertEqual(self.colours(*ahead, (("fill", "north", "blue"), 1)), ["amber", "blue"])
        self.assertEqual(self.colours(*ahead, (("fill", "north", "clear"), 1)), ["amber", "clear"])
        self.assertEqual(self.colours(*ahead, (("fill", "north", "blue"), 1), (("empty", "north"), 1), (FILL, 1)),
                         ["amber", "blue", ""])

    def test_washings_of_the_broken_pot_do_not_count(self):
        entries = [(("wash", "north", 9), 0), (("break", "north"), 1), (("new", "north", 0), 1), (FILL, 1),
                   (("empty", "north"), 1), (("wash", "north", 3), 1), (("fill", "north", "blue"), 4)]
        self.assertEqual(self.colours(*entries), ["amber", ""])

    def test_by_pots_of_their_own(self):
        self.assertEqual(self.colours((FILL, 0), (("fill", "south", "blue"), 0)), ["amber", "blue"])
        self.assertEqual(self.colours((FILL, 0), (("empty", "north"), 0), (("wash", "south", 9), 0),
                                      (("fill", "north", "blue"), 9)), ["amber", ""])

    def test_a_void_fill_names_nothing(self):
        told = account(9, (FILL, 0), (("fill", "north", "blue"), 1), (("empty", "north"), 2), (FILL, 2))
        self.assertEqual(told.glass("north"), ("amber", 9, 3))
        told = account(9, (("fill", "north", "green"), 0), (("wash", "west", 4), 0), (FILL, 2))
        self.assertEqual(told.glass("north"), ("amber", 9, 2))

    def test_a_void_washing_does_not_count(self):
        told = account(9, (FILL, 0), (("wash", "north", 9), 1), (("empty", "north"), 2), (("fill", "north", "blue"), 2))
        self.assertEqual(told.glass("north"), ("", 4, 3))

    def test_its_pieces_with_it(self):
        told = account(3, (FILL, 0), (("empty", "north"), 0), (("fill", "north", "blue"), 0), (gather(3), 1))
        self.assertEqual(told.rows()[2:], [(0, 2, "fill", "north", 4, "", 2), (1, 3, "gather", "north", 3, "", 2)])
        self.assertEqual(told.glass("north"), ("", 1, 2))
        self.assertEqual(told.pieces(), [("cup", "", 3)])
        self.assertEqual(told.tunnel(), [])
        self.assertEqual(told.sums("blue"), (0, 0, 0, 0, 0))
        self.assertEqual(told.sums(""), (4, 3, 0, 0, 1))


class Gathers(unittest.TestCase):
    def test_least_free_slots(self):
        told = account(5, (FILL, 0), (gather(2), 5), (gather(1, "bowl"), 5))
        self.assertEqual(told.tunnel(), [(0, "cup", "amber", 7), (1, "cup", "amber", 7), (2, "bowl", "amber", 11)])

    def test_slots_that_come_free_at_that_very_hour(self):
        entries = [(FILL, 0), (gather(1, "bowl"), 5), (gather(2), 5), (gather(2, "jug"), 7)]
        told = account(7, *entries, slots=3)
        self.assertEqual(told.voids(), [])
        self.assertEqual(told.tunnel(), [(0, "bowl", "amber", 11), (1, "jug", "amber", 106), (2, "jug", "amber", 106)])
        entries[-1] = (gather(2, "jug"), 6)
        self.assertEqual(account(7, *entries, slots=3).voids(), [(6, 3, "full")])

    def test_a_slot_between_taken_ones(self):
        entries = [(FILL, 0), (gather(1, "bowl"), 5), (gather(1), 5), (gather(1, "jug"), 5), (gather(2), 8)]
        self.assertEqual(account(8, *entries).tunnel(),
                         [(0, "bowl", "amber", 11), (1, "cup", "amber", 10), (2, "jug", "amber", 104),
                          (3, "cup", "amber", 10)])

    def test_inside_at_the_accounts_hour(self):
        entries = [(FILL, 0), (gather(2), 5), (gather(1, "bowl"), 6)]
        self.assertEqual([len(account(hour, *entries).tunnel()) for hour in (4, 5, 6, 7, 11, 12)], [0, 2, 3, 1, 1, 0])
        self.assertEqual(account(7, *entries).tunnel(), [(2, "bowl", "amber", 12)])

    def test_the_last_gather(self):
        told = account(5, (FILL, 0), (gather(4), 5), (gather(5), 5))
        self.assertIsNone(told.glass("north"))
        self.assertEqual(told.state("north"), "out")
        self.assertEqual(told.rows()[-1], (5, 2, "gather", "north", 5, "amber", 0))
        self.assertEqual(account(5, (FILL, 0), (gather(8), 5)).glass("north"), ("amber", 1, 0))

    def test_many(self):
        book = Book((PALETTE[0][:2] + (("clear", 1, 0, 999),), ()), KINDS, TEAMS, POTS, 60)
        book.enter(("fill", "north", "clear"))
        book.enter(gather(61), 1)
        book.enter(gather(60), 1)
        book.enter(gather(999), 9)
        told = Account(book, 9)
        self.assertEqual(told.voids(), [(1, 1, "full"), (9, 3, "less")])
        self.assertEqual(told.pieces(), [("cup", "clear", 60)])
        self.assertEqual([row[0] for row in Account(book, 1).tunnel()], list(range(60)))

    def test_two_pots_one_tunnel(self):
        told = account(5, (FILL, 0), (("fill", "south", "blue"), 0), (gather(2, pot="south"), 4), (gather(3), 5))
        self.assertEqual(told.tunnel(), [(0, "cup", "blue", 6), (1, "cup", "blue", 6), (2, "cup", "amber", 7),
                                         (3, "cup", "amber", 7), (4, "cup", "amber", 7)])

    def test_out_far_later(self):
        entries = [(FILL, 0), (gather(2, "jug"), 5)]
        self.assertEqual(account(103, *entries).tunnel(), [(0, "jug", "amber", 104), (1, "jug", "amber", 104)])
        self.assertEqual(account(104, *entries).tunnel(), [])
        self.assertEqual(account(10 ** 6, *entries).tunnel(), [])


class States(unittest.TestCase):
    def states(self, hours, *entries):
        return [account(hour, *entries).state("north") for hour in hours]

    def test_of_a_fill(self):
        self.assertEqual(self.states(range(2, 10), (FILL, 3)),
                         ["out", "filled", "filled", "melting", "melting", "melting", "ready", "ready"])
        self.assertEqual(self.states(range(3), (("fill", "north", "blue"), 0)), ["filled", "ready", "ready"])

    def test_of_a_washing(self):
        self.assertEqual(self.states(range(3, 7), (("wash", "north", 2), 4)), ["out", "washing", "washing", "out"])
        self.assertEqual(self.states([4], (("wash", "north", 0), 4)), ["out"])

    def test_of_a_warming(self):
        entries = [(("break", "north"), 4), (("new", "north", 2), 6)]
        self.assertEqual(self.states(range(3, 10), *entries),
                         ["out", "broken", "broken", "warming", "warming", "out", "out"])
        self.assertEqual(self.states([4], (("break", "north"), 4), (("new", "north", 0), 4)), ["out"])

    def test_breaks_in_a_washing_and_in_a_warming(self):
        entries = [(("wash", "north", 9), 0), (("break", "north"), 2), (("new", "north", 9), 3), (("break", "north"), 5),
                   (("new", "north", 1), 6), (FILL, 7)]
        self.assertEqual(self.states(range(9), *entries), ["washing", "washing", "broken", "warming", "warming", "broken",
                                                           "warming", "filled", "filled"])
        self.assertEqual(account(9, *entries).voids(), [])
        self.assertEqual([row[2:] for row in account(9, *entries).rows()],
                         [("wash", "north", 0, "", None), ("break", "north", 0, "", None), ("new", "north", 0, "", None),
                          ("break", "north", 0, "", None), ("new", "north", 0, "", None),
                          ("fill", "north", 9, "amber", 5)])

    def test_behind_its_entries(self):
        self.assertEqual(self.states([5], (FILL, 0), (("empty", "north"), 5)), ["out"])
        self.assertEqual(self.states([5], (FILL, 0), (("empty", "north"), 5), (("wash", "north", 1), 5)), ["washing"])
        self.assertEqual(self.states([5], (FILL, 5), (("break", "north"), 5)), ["broken"])

    def test_of_a_pot_that_breaks_full(self):
        told = account(6, (FILL, 0), (gather(2), 5), (("break", "north"), 6))
        self.assertEqual(told.rows()[-1], (6, 2, "break", "north", 7, "amber", 0))
        self.assertIsNone(told.glass("north"))
        self.assertEqual(told.state("north"), "broken")
        self.assertEqual(told.sums("amber"), (9, 2, 0, 7, 0))

    def test_others_are_not_moved(self):
        told = account(3, (FILL, 0), (("break", "south"), 1))
        self.assertEqual((told.state("north"), told.state("south")), ("melting", "broken"))

    def test_no_such_pot(self):
        told = account(3, (FILL, 0))
        for ask in (told.state, told.glass):
            for name in ("west", "amber", "ann", "n"):
                with self.assertRaises(NoSuch) as caught:
                    ask(name)
                self.assertEqual((caught.exception.what, caught.exception.name), ("pot", name))
        bare = Account(Book(PALETTE, KINDS, (), ()), 4)
        self.assertRaises(NoSuch, bare.state, "north")
        self.assertRaises(NoSuch, bare.glass, "north")


class Rows(unittest.TestCase):
    def test_each_deed(self):
        entries = [(FILL, 0), (gather(2, "bowl"), 5), (("empty", "north"), 6), (("wash", "north", 4), 6),
                   (("fill", "north", "blue"), 10), (("break", "north"), 10), (("new", "north", 3), 11),
                   (("break", "south"), 12)]
        told = account(12, *entries)
        self.assertEqual(told.voids(), [])
        self.assertEqual(told.rows(), [
            (0, 0, "fill", "north", 9, "amber", 0),
            (5, 1, "gather", "north", 2, "amber", 0),
            (6, 2, "empty", "north", 7, "amber", 0),
            (6, 3, "wash", "north", 0, "", None),
            (10, 4, "fill", "north", 4, "blue", 4),
            (10, 5, "break", "north", 4, "blue", 4),
            (11, 6, "new", "north", 0, "", None),
            (12, 7, "break", "south", 0, "", None),
        ])

    def test_of_streaked_glass(self):
        entries = [(FILL, 0), (("empty", "north"), 0), (("fill", "north", "blue"), 0), (gather(), 1),
                   (("empty", "north"), 1), (("fill", "north", "amber"), 1), (("break", "north"), 1)]
        self.assertEqual([row[2:] for row in account(1, *entries).rows()][2:], [
            ("fill", "north", 4, "", 2), ("gather", "north", 1, "", 2), ("empty", "north", 3, "", 2),
            ("fill", "north", 9, "", 5), ("break", "north", 9, "", 5)])

    def test_thrown_out_while_it_is_filled_or_melts(self):
        for hour in (0, 1, 2, 4, 5, 9):
            told = account(hour, (FILL, 0), (("empty", "north"), hour))
            self.assertEqual(told.rows()[-1], (hour, 1, "empty", "north", 9, "amber", 0))
            self.assertEqual(told.state("north"), "out")

    def test_own(self):
        told = account(9, (FILL, 0), (gather(2), 5), (gather(99), 5))
        before = copy.deepcopy(answers(told))
        for ask in (told.rows, told.voids, told.pieces, told.tunnel, lambda: told.lacking([("cup", "amber", 1)])):
            self.assertIsNot(ask(), ask())
            ask().append("more")
            ask().clear()
        self.assertEqual(answers(told), before)
        self.assertIsNot(account(9).rows(), account(9).voids())


class PiecesAndSums(unittest.TestCase):
    def test_pieces(self):
        entries = [(FILL, 0), (("fill", "south", "blue"), 0), (gather(2), 5), (gather(1, "bowl"), 5),
                   (gather(3, pot="south"), 6), (gather(3), 7), (gather(1, "bowl"), 8)]
        self.assertEqual(account(9, *entries).pieces(),
                         [("bowl", "amber", 2), ("cup", "amber", 5), ("cup", "blue", 3)])
        self.assertEqual(account(6, *entries).pieces(),
                         [("bowl", "amber", 1), ("cup", "amber", 2), ("cup", "blue", 3)])
        # They stay made when they are out of the tunnel.
        self.assertEqual(account(900, *entries).pieces(), account(9, *entries).pieces())

    def test_streaked_ones_come_first(self):
        entries = [(FILL, 0), (gather(1), 5), (("empty", "north"), 5), (("fill", "north", "clear"), 5), (gather(2), 10)]
        self.assertEqual(account(10, *entries).pieces(), [("cup", "", 2), ("cup", "amber", 1)])

    def test_sums(self):
        entries = [(FILL, 0), (("fill", "south", "amber"), 0), (gather(2), 5), (gather(4, pot="south"), 5),
                   (("empty", "north"), 6), (("break", "south"), 6), (FILL, 7), (gather(1), 12)]
        told = account(12, *entries)
        self.assertEqual(told.voids(), [])
        self.assertEqual(told.sums("amber"), (27, 7, 7, 5, 8))
        for colour in ("blue", "clear", "", "green"):
            self.assertEqual(told.sums(colour), (0, 0, 0, 0, 0))
        self.assertEqual(account(5, *entries).sums("amber"), (18, 6, 0, 0, 12))
        self.assertIsInstance(told.sums("amber"), tuple)

    def test_sums_of_streaked_glass(self):
        entries = [(FILL, 0), (("empty", "north"), 0), (("fill", "north", "blue"), 0), (gather(1), 1),
                   (("empty", "north"), 2), (FILL, 2), (gather(5), 7), (("break", "north"), 7),
                   (("fill", "south", "blue"), 7), (("empty", "south"), 7), (FILL, 8), (("fill", "south", "amber"), 8)]
        told = account(8, *entries)
        self.assertEqual(told.voids(), [(8, 10, "broken")])
        self.assertEqual(told.sums(""), (22, 6, 3, 4, 9))
        self.assertEqual(told.sums("amber"), (9, 0, 9, 0, 0))
        self.assertEqual(told.sums("blue"), (4, 0, 4, 0, 0))

    def test_void_ones_are_in_no_sum(self):
        told = account(9, (FILL, 0), (FILL, 1), (gather(99), 5), (("empty", "south"), 5))
        self.assertEqual(told.sums("amber"), (9, 0, 0, 0, 9))
        self.assertEqual(told.pieces(), [])


class Lacking(unittest.TestCase):
    def setUp(self):
        entries = [(FILL, 0), (gather(5), 5), (gather(2, "bowl"), 5), (("empty", "north"), 5),
                   (("fill", "north", "blue"), 5), (gather(3), 6)]
        self.told = account(9, *entries)
        self.assertEqual(self.told.pieces(), [("bowl", "amber", 2), ("cup", "", 3), ("cup", "amber", 5)])

    def test_one(self):
        for many, lacks in ((0, 0), (1, 0), (5, 0), (6, 1), (10 ** 9, 10 ** 9 - 5)):
            self.assertEqual(self.told.lacking([("cup", "amber", many)]), [lacks])

    def test_like_ones_in_their_order(self):
        orders = [("cup", "amber", 2), ("bowl", "amber", 3), ("cup", "amber", 2), ("cup", "", 1), ("cup", "amber", 2),
                  ("cup", "amber", 4), ("cup", "", 3), ("bowl", "amber", 1), ("cup", "amber", 0)]
        before = copy.deepcopy(orders)
        self.assertEqual(self.told.lacking(orders), [0, 1, 0, 0, 1, 4, 1, 1, 0])
        self.assertEqual(orders, before)
        self.assertEqual(self.told.lacking(orders), [0, 1, 0, 0, 1, 4, 1, 1, 0])

    def test_a_great_order_takes_all(self):
        self.assertEqual(self.told.lacking([("cup", "amber", 9), ("cup", "amber", 1)]), [4, 1])
        self.assertEqual(self.told.lacking([("cup", "amber", 1), ("cup", "amber", 9)]), [0, 5])

    def test_what_was_never_made(self):
        self.assertEqual(self.told.lacking([("jug", "amber", 3), ("cup", "blue", 2), ("dish", "green", 7)]), [3, 2, 7])
        self.assertEqual(self.told.lacking([("bowl", "", 3)]), [3])
        self.assertEqual(self.told.lacking([("jug", "amber", 3), ("jug", "amber", 2), ("jug", "amber", 1)]), [3, 2, 1])

    def test_none_and_forty(self):
        self.assertEqual(self.told.lacking([]), [])
        self.assertEqual(self.told.lacking([("cup", "amber", 1)] * 40), [0] * 5 + [1] * 35)

    def test_told_pieces_handed_in_again(self):
        self.assertEqual(self.told.lacking(self.told.pieces()), [0, 0, 0])


class AgainstASlowReading(unittest.TestCase):
    def check(self, book, hour):
        told, slow = Account(book, hour), SlowAccount(book, hour)
        self.assertEqual(told.rows(), slow.rows())
        self.assertEqual(told.voids(), slow.void)
        for pot in POTS:
            self.assertEqual(told.state(pot), slow.state(pot))
            self.assertEqual(told.glass(pot), slow.glass(pot))
        self.assertEqual(told.pieces(), slow.pieces())
        self.assertEqual(told.tunnel(), slow.tunnel())
        for colour in ("amber", "blue", "clear", "", "green"):
            self.assertEqual(told.sums(colour), slow.sums(colour))
            self.assertEqual(told.sums(colour)[0], sum(told.sums(colour)[1:]))
        return told

    def test_random_books(self):
        words, states, streaked = set(), set(), 0
        for seed in range(400):
            rng = random.Random(seed)
            book = random_book(seed, rng.choice([5, 20, 60, 120]), rng.choice([10, 60, 200]), rng.choice([0, 2, 6, 30]))
            for hour in (0, 3, 17, 40, 10 ** 4):
                told = self.check(book, hour)
                words |= {word for at, number, word in told.voids()}
                states |= {told.state(pot) for pot in POTS}
                streaked += len([row for row in told.rows() if row[2] == "gather" and row[5] == ""])
        self.assertEqual(words, {"name", "broken", "busy", "glass", "none", "cold", "rank", "less", "full", "whole"})
        self.assertEqual(states, {"broken", "warming", "washing", "filled", "melting", "ready", "out"})
        self.assertGreater(streaked, 100)


if __name__ == "__main__":
    unittest.main()
