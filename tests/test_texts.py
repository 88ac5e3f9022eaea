import random
import unittest

from potround.book import Book
from potround.texts import book_from, book_text
from tests.hall import KINDS, PALETTE, POTS, TEAMS, made, random_book
from tests.slowtext import bent_text, first_bad
from tests.things import check_bad_row

HEAD = [
    "colour amber 2 3 9",
    "colour blue 1 0 4",
    "colour clear 3 2 20",
    "wash amber blue 4",
    "wash amber clear never",
    "wash blue amber 1",
    "wash clear amber 0",
    "kind bowl 3 6",
    "kind cup 1 2",
    "kind jug 2 99",
    "team ann 3",
    "team bob 1",
    "pot north",
    "pot south",
    "slots 12",
]
DEEDS = [
    (("fill", "north", "amber"), 0, "at 0 fill north amber"),
    (("gather", "ann", "north", "cup", 3), 5, "at 5 gather ann north cup 3"),
    (("empty", "north"), 6, "at 6 empty north"),
    (("wash", "north", 40), 6, "at 6 wash north 40"),
    (("break", "south"), 7, "at 7 break south"),
    (("new", "south", 999), 9999, "at 9999 new south 999"),
]
LEAST = ["colour a 1 0 1", "kind k 1 1", "slots 0"]


def text(rows):
    return "\n".join(rows)


def names(many):
    """So many rising NAMEs."""
    return ["n" + "abcdefghijklmnopqrstuvwxyz"[at // 26] + "abcdefghijklmnopqrstuvwxyz"[at % 26] for at in range(many)]


class Written(unittest.TestCase):
    def test_each_sort_of_rows(self):
        self.assertEqual(book_text(made()), text(HEAD))
        book = made(entries=[(deed, hour) for deed, hour, row in DEEDS])
        self.assertEqual(book_text(book), text(HEAD + [row for deed, hour, row in DEEDS]))
        self.assertEqual(book_text(book=book), book_text(book))

    def test_entries_as_entries_tells(self):
        book = made(entries=[(deed, hour) for deed, hour, row in DEEDS[::-1]])
        book.strike(0)
        book.put_right(5, ("empty", "west"), 8)
        self.assertEqual(book_text(book).split("\n")[15:],
                         ["at 5 gather ann north cup 3", "at 6 wash north 40", "at 6 empty north", "at 7 break south",
                          "at 8 empty west"])

    def test_what_may_be_left_out(self):
        book = Book(((("a", 1, 0, 1),), ()), (("k", 1, 1),), (), (), 0)
        self.assertEqual(book_text(book), text(LEAST))

    def test_the_book_is_not_changed(self):
        book = made(entries=[(deed, hour) for deed, hour, row in DEEDS])
        twin = book.twin()
        self.assertEqual(book_text(book), book_text(book))
        self.assertEqual(book, twin)
        self.assertEqual(book.told_times(), 6)


class ReadBack(unittest.TestCase):
    def test_each_sort_of_rows(self):
        book = book_from(text(HEAD + [row for deed, hour, row in DEEDS]))
        self.assertIsInstance(book, Book)
        self.assertEqual((book.palette, book.kinds, book.teams, book.pots, book.slots), (PALETTE, KINDS, TEAMS, POTS, 12))
        self.assertEqual(book.entries(), [(hour, at, deed) for at, (deed, hour, row) in enumerate(DEEDS)])
        self.assertEqual(book, made(entries=[(deed, hour) for deed, hour, row in DEEDS]))
        self.assertEqual(book_from(text=text(HEAD)), made())

    def test_fields_are_tuples(self):
        book = book_from(text(HEAD))
        self.assertEqual(repr((book.palette, book.kinds, book.teams, book.pots)), repr((PALETTE, KINDS, TEAMS, POTS)))

    def test_what_may_be_left_out(self):
        book = book_from(text(LEAST))
        self.assertEqual((book.palette, book.kinds, book.teams, book.pots, book.slots),
                         (((("a", 1, 0, 1),), ()), (("k", 1, 1),), (), (), 0))
        self.assertEqual(book.entries(), [])
        self.assertEqual(book.told_times(), 0)
        for left_out in ("wash", "team", "pot"):
            rows = [row for row in HEAD if not row.startswith(left_out)]
            self.assertEqual(book_text(book_from(text(rows))), text(rows))

    def test_entered_in_the_texts_order(self):
        rows = ["at 9 empty north", "at 2 break west", "at 9 empty south", "at 0 new x 0"]
        book = book_from(text(HEAD + rows))
        self.assertEqual(book.entries(), [(0, 3, ("new", "x", 0)), (2, 1, ("break", "west")), (9, 0, ("empty", "north")),
                                          (9, 2, ("empty", "south"))])
        self.assertEqual(book.told_times(), 4)
        self.assertIs(book.undo(), True)
        self.assertEqual(len(book), 3)
        self.assertEqual(book.enter(("empty", "north")), 3)

    def test_names_of_deeds_may_be_any(self):
        rows = ["at 1 fill west green", "at 2 gather zz yy xx 999", "at 3 wash fill 0", "at 4 empty at", "at 5 new new 0"]
        self.assertEqual(book_text(book_from(text(LEAST + rows))), text(LEAST + rows))

    def test_a_colour_called_never(self):
        rows = ["colour amber 1 0 1", "colour never 1 0 1", "wash amber never 3", "wash never amber never"] + LEAST[1:]
        book = book_from(text(rows))
        self.assertEqual(book.palette[1], (("amber", "never", 3), ("never", "amber", None)))
        self.assertEqual(book_text(book), text(rows))

    def test_bounds(self):
        rows = ["colour a 20 99 999", "colour abcdefgh 1 0 1", "wash a abcdefgh 99", "wash abcdefgh a 0", "kind k 9 99",
                "team t 9", "pot p", "slots 60", "at 9999 wash p 999", "at 0 gather t p k 1", "at 0 gather t p k 999"]
        self.assertEqual(book_text(book_from(text(rows))), text(rows[:8] + rows[9:] + [rows[8]]))

    def test_equal_but_for_numbers(self):
        for seed in range(40):
            book = random_book(seed, 60)
            for number in range(0, 60, 7):
                book.strike(number)
            written = book_text(book)
            again = book_from(written)
            self.assertEqual([(hour, deed) for hour, number, deed in again.entries()],
                             [(hour, deed) for hour, number, deed in book.entries()])
            self.assertEqual([number for hour, number, deed in again.entries()], list(range(len(book))))
            self.assertEqual((again.palette, again.kinds, again.teams, again.pots, again.slots),
                             (book.palette, book.kinds, book.teams, book.pots, book.slots))
            self.assertEqual(book_text(again), written)
            self.assertEqual(book_from(book_text(again)), again)

    def test_a_hundred_and_twenty(self):
        book = random_book(7, 120)
        self.assertEqual(len(book_from(book_text(book))), 120)

    def test_told_the_same_and_apart(self):
        one, other = book_from(text(HEAD)), book_from(text(HEAD))
        one.enter(("empty", "north"))
        self.assertEqual(len(other), 0)
        self.assertEqual(book_from(text(HEAD)), other)


class Refused(unittest.TestCase):
    def refused(self, rows, number):
        check_bad_row(self, book_from, rows, number)

    def instead(self, number, *others):
        """Each of the others can't stand in the place of that row of HEAD and DEEDS."""
        rows = HEAD + [row for deed, hour, row in DEEDS]
        for other in others:
            self.refused(rows[:number] + [other] + rows[number + 1:], number)

    def test_not_so_written(self):
        rows = HEAD + [row for deed, hour, row in DEEDS]
        for number, row in enumerate(rows):
            words = row.split(" ")
            self.instead(number, "", " ", row + " ", " " + row, row.replace(" ", "  ", 1), row.replace(" ", "\t", 1),
                         row.upper(), row.capitalize(), row + " x", row + " 1", row + " never", " ".join(words[:-1]),
                         " ".join(words[1:]), words[0], "x" + row, "# " + row, row + "\r", row + "\t",
                         " ".join([words[0] + "s"] + words[1:]))

    def test_numbers(self):
        rows = HEAD + [row for deed, hour, row in DEEDS]
        for number, row in enumerate(rows):
            words = row.split(" ")
            for at, word in enumerate(words):
                if word.isdigit():
                    for other in ("0" + word, "+" + word, "-" + word, word + ".0", "", "x", "never" if at != 3 else "no",
                                  "1_0", "0x1", "\u0661", "\u00b2", "1e1", "9" * 60, "9" * 6000, "00", "-0"):
                        self.instead(number, " ".join(words[:at] + [other] + words[at + 1:]))

    def test_names(self):
        rows = HEAD + [row for deed, hour, row in DEEDS]
        for number, row in enumerate(rows):
            words = row.split(" ")
            for at, word in enumerate(words):
                if at > 0 and word.isalpha() and word != "never":
                    for other in ("", "1", "0", "abcdefghi", "aB", "A", "a1", "a-b", "*", "-", "\u00e4", "a_b"):
                        self.instead(number, " ".join(words[:at] + [other] + words[at + 1:]))

    def test_bounds_by_one(self):
        self.instead(0, "colour amber 0 3 9", "colour amber 21 3 9", "colour amber 2 100 9", "colour amber 2 3 0",
                     "colour amber 2 3 1000")
        self.instead(3, "wash amber blue 100")
        self.instead(7, "kind bowl 0 6", "kind bowl 10 6", "kind bowl 3 0", "kind bowl 3 100")
        self.instead(10, "team ann 0", "team ann 10")
        self.instead(14, "slots 61")
        self.instead(15, "at 10000 fill north amber")
        self.instead(16, "at 5 gather ann north cup 0", "at 5 gather ann north cup 1000")
        self.instead(18, "at 6 wash north 1000")
        self.instead(20, "at 9999 new south 1000", "at 10000 new south 999")

    def test_words_of_rows(self):
        for number in range(len(HEAD) + len(DEEDS)):
            self.instead(number, "row", "name amber", "undo", "state north 0", "strike 0", "right 0 0 empty north",
                         "washing amber", "never", "0", "fill north amber", "pieces 0", "at", "at 0", "at 0 fill")

    def test_unlike_and_known_colours_of_washes(self):
        self.instead(3, "wash amber amber 4", "wash amber green 4", "wash green amber 4", "wash amber blue no")
        self.refused(["colour b 1 0 1", "wash a b 1"] + LEAST[1:], 1)
        self.refused(["colour b 1 0 1", "wash b b 1"] + LEAST[1:], 1)

    def test_not_rising_or_twice(self):
        for at, more in ((2, 1), (6, 4), (9, 8), (11, 10), (13, 12)):
            # The first of its sort once more behind the last, and the last one twice.
            self.refused(HEAD[:at + 1] + [HEAD[more]] + HEAD[at + 1:], at + 1)
            self.refused(HEAD[:at + 1] + [HEAD[at]] + HEAD[at + 1:], at + 1)
        self.refused([HEAD[1], HEAD[0]] + HEAD[2:], 1)
        self.refused(HEAD[:3] + [HEAD[4], HEAD[3]] + HEAD[5:], 4)

    def test_like_names_with_other_numbers(self):
        self.refused(["colour a 1 0 1", "colour a 2 0 1"] + LEAST[1:], 1)
        self.refused(["colour a 1 0 1", "colour b 1 0 1", "wash a b 3", "wash a b 4"] + LEAST[1:], 3)
        self.refused(["colour a 1 0 1", "colour b 1 0 1", "wash a b 3", "wash a b never"] + LEAST[1:], 3)
        self.refused(["colour a 1 0 1", "colour b 1 0 1", "wash a b never", "wash a b 4"] + LEAST[1:], 3)
        self.refused(LEAST[:1] + ["kind k 1 1", "kind k 2 1", "slots 0"], 2)
        self.refused(LEAST[:2] + ["team t 1", "team t 2", "slots 0"], 3)

    def test_out_of_their_order(self):
        sorts = {"colour": 0, "wash": 3, "kind": 7, "team": 10, "pot": 12}
        firsts = list(sorts.values())
        for sort, first in sorts.items():
            # A row of an earlier sort, rising, behind rows of each later one.
            row = HEAD[first].replace(HEAD[first].split(" ")[1], "z", 1)
            if sort == "wash":
                row = "wash clear blue 1"
            for behind in firsts[firsts.index(first) + 2:] + [15]:
                self.refused(HEAD[:behind] + [row] + HEAD[behind:], behind)
        self.refused(HEAD[:15] + ["at 0 empty north", "pot zz"], 16)

    def test_a_later_sort_ahead_of_colours_and_kinds(self):
        for row in ("wash amber blue 4", "kind bowl 3 6", "team ann 3", "pot north", "slots 12", "at 0 empty north"):
            self.refused([row] + HEAD, 0)
            self.refused([row], 0)
        for row in ("team ann 3", "pot north", "slots 12", "at 0 empty north"):
            self.refused(HEAD[:3] + [row] + HEAD[7:], 3)
            self.refused(HEAD[:7] + [row] + HEAD[7:], 7)
        self.refused(HEAD[:14] + ["at 0 empty north"] + HEAD[14:], 14)

    def test_no_row_of_slots(self):
        for many in range(1, 15):
            self.refused(HEAD[:many], many)
        self.refused(LEAST[:2], 2)
        self.refused(LEAST[:1], 1)

    def test_empty_texts(self):
        self.refused([""], 0)
        self.refused(["", ""], 0)
        self.refused(HEAD + [""], 15)
        self.refused(HEAD[:14] + [""], 14)
        self.refused([""] + HEAD, 0)
        self.refused(HEAD + ["at 0 empty north", "", "at 0 empty north"], 16)

    def test_a_second_row_of_slots(self):
        self.refused(HEAD + ["slots 12"], 15)
        self.refused(HEAD + ["at 0 empty north", "slots 12"], 16)
        self.refused(HEAD[:14] + ["slots 3", "slots 12"], 15)

    def test_one_row_more_than_may_stand(self):
        head = LEAST[:1]
        colours = [f"colour {name} 1 0 1" for name in names(13)]
        self.assertEqual(len(book_from(text(colours[:12] + LEAST[1:])).palette[0]), 12)
        self.refused(colours + LEAST[1:], 12)
        pairs = [f"wash {one} {other} 1" for one in names(12) for other in names(12) if one != other]
        self.assertEqual(len(book_from(text(colours[:12] + pairs[:60] + LEAST[1:])).palette[1]), 60)
        self.refused(colours[:12] + pairs[:61] + LEAST[1:], 72)
        kinds = [f"kind {name} 1 1" for name in names(21)]
        self.assertEqual(len(book_from(text(head + kinds[:20] + ["slots 0"])).kinds), 20)
        self.refused(head + kinds + ["slots 0"], 21)
        teams = [f"team {name} 1" for name in names(11)]
        self.assertEqual(len(book_from(text(LEAST[:2] + teams[:10] + ["slots 0"])).teams), 10)
        self.refused(LEAST[:2] + teams + ["slots 0"], 12)
        pots = [f"pot {name}" for name in names(9)]
        self.assertEqual(len(book_from(text(LEAST[:2] + pots[:8] + ["slots 0"])).pots), 8)
        self.refused(LEAST[:2] + pots + ["slots 0"], 10)
        self.assertEqual(len(book_from(text(LEAST + ["at 3 empty p"] * 120))), 120)
        self.refused(LEAST + ["at 3 empty p"] * 121, 123)
        self.refused(LEAST + ["at 3 empty p"] * 150, 123)

    def test_the_first_of_several(self):
        self.refused(["colour a 1 0 1", "kind k 1 1", "team t 77", "slots 99", "nothing"], 2)
        self.refused(["colour a 1 0 1", "kind k 1 1", "slots 9", "at 0 empty", "nothing"], 3)
        self.refused(LEAST[:2] + ["nothing"], 2)

    def test_against_a_slow_reading(self):
        rng = random.Random(201)
        seen = {"read": 0, "refused": 0}
        base = text(HEAD + [row for deed, hour, row in DEEDS])
        for _ in range(6000):
            written = base
            for _ in range(rng.choice([1, 1, 2, 3])):
                written = bent_text(rng, written)
            bad = first_bad(written)
            if bad is None:
                seen["read"] += 1
                rows = written.split("\n")
                entries = [row for row in rows if row.startswith("at ")]
                self.assertEqual(book_text(book_from(written)).split("\n")[:len(rows) - len(entries)],
                                 rows[:len(rows) - len(entries)])
                self.assertEqual(len(book_from(written)), len(entries))
            else:
                seen["refused"] += 1
                self.refused(written.split("\n"), bad)
        self.assertGreater(seen["read"], 500)
        self.assertGreater(seen["refused"], 3000)


if __name__ == "__main__":
    unittest.main()
