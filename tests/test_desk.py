import random
import unittest

from potround.accounts import Account
from potround.desk import run
from potround.errors import NoSuch
from potround.ordering import least_washing
from potround.texts import book_from, book_text
from tests.hall import random_book, random_deed
from tests.slowtext import bent_text, first_bad
from tests.test_texts import HEAD, LEAST, text
from tests.things import check_bad_row

FILLED = HEAD + ["at 0 fill north amber"]
# Blue behind amber without its washing is streaked.
STREAKED = FILLED + ["at 5 gather ann north cup 2", "at 5 empty north", "at 5 fill north blue", "at 6 gather ann north cup 1",
                     "at 6 gather ann north bowl 2"]


def words_of(deed):
    return " ".join([str(part) for part in deed])


class Answers(unittest.TestCase):
    def told(self, rows, *answers, ahead=FILLED):
        before = text(ahead + rows)
        told = run(before)
        self.assertEqual(told, list(answers))
        self.assertIsInstance(told, list)
        self.assertEqual(run(before), told)
        self.assertIsNot(run(before), told)

    def test_none(self):
        self.told([])
        self.told([], ahead=HEAD)
        self.told([], ahead=LEAST)
        self.assertEqual(run(text=text(HEAD)), [])

    def test_rows_of_at_have_none(self):
        self.told(["at 3 empty north", "state north 3", "at 3 empty west"], "out")

    def test_state(self):
        self.told([f"state north {hour}" for hour in (0, 1, 2, 4, 5, 9999)],
                  "filled", "filled", "melting", "melting", "ready", "ready")
        self.told(["state south 0", "at 1 break south", "state south 0", "state south 1", "at 2 new south 3",
                   "state south 4", "state south 5", "at 6 wash south 1", "state south 6"],
                  "out", "out", "broken", "warming", "out", "washing")

    def test_glass(self):
        self.told(["glass north 0", "glass south 0", "at 5 gather ann north cup 4", "glass north 5", "glass north 4",
                   "at 6 empty north", "glass north 6"], "amber 9", "-", "amber 5", "amber 9", "-")
        self.told(["glass north 5", "glass north 6"], "* 4", "* 1", ahead=STREAKED)

    def test_a_pot_that_is_not_there(self):
        self.told(["state west 0", "glass west 0", "state amber 9999", "glass ann 3"], *["refused"] * 4)
        self.told(["state north 0", "glass n 0"], "refused", "refused", ahead=LEAST)

    def test_pieces(self):
        self.told(["pieces 5", "at 5 gather ann north cup 4", "pieces 4", "pieces 5", "at 6 gather ann north bowl 1",
                   "pieces 6"], "-", "-", "cup amber 4", "bowl amber 1; cup amber 4")
        self.told(["pieces 9999"], "bowl * 2; cup * 1; cup amber 2", ahead=STREAKED)

    def test_voids(self):
        self.told(["voids 9999", "at 7 empty south", "voids 6", "voids 7", "at 2 fill west blue", "at 7 new south 1",
                   "voids 7", "voids 3"], "-", "-", "1 none", "2 name; 1 none; 3 whole", "2 name")

    def test_tunnel(self):
        self.told(["tunnel 5", "at 5 gather ann north cup 2", "tunnel 5", "at 6 gather ann north jug 1", "tunnel 6",
                   "tunnel 7", "tunnel 105"],
                  "-", "0 cup amber 7; 1 cup amber 7", "0 cup amber 7; 1 cup amber 7; 2 jug amber 105",
                  "2 jug amber 105", "-")
        self.told(["tunnel 6"], "0 cup amber 7; 1 cup amber 7; 2 cup * 8; 3 bowl * 12; 4 bowl * 12", ahead=STREAKED)

    def test_sums(self):
        self.told(["sums amber 0", "sums blue 0", "sums green 0", "sums * 0"],
                  "9 0 0 0 9", "0 0 0 0 0", "0 0 0 0 0", "0 0 0 0 0")
        self.told(["sums amber 9", "sums * 9", "sums * 5", "sums blue 9", "at 7 break north", "sums * 9"],
                  "9 2 7 0 0", "4 3 0 0 1", "4 0 0 0 4", "0 0 0 0 0", "4 3 0 1 0", ahead=STREAKED)

    def test_lacking(self):
        self.told(["lacking 9 cup amber 5", "lacking 9 cup amber 2", "lacking 9 cup amber 0", "lacking 4 cup amber 5",
                   "lacking 9 cup * 5", "lacking 9 cup blue 5", "lacking 9 bowl * 2", "lacking 9 dish green 1000000000"],
                  "3", "0", "0", "5", "4", "5", "0", "1000000000", ahead=STREAKED)

    def test_washing(self):
        self.told(["washing amber", "washing amber blue", "washing blue amber", "washing clear amber blue",
                   "washing amber amber", "washing amber clear amber", "washing clear blue clear"],
                  "0 amber", "1 blue amber", "1 blue amber", "0 blue clear amber", "0 amber amber", "0 clear amber amber",
                  "0 blue clear clear")
        rows = ["colour a 1 0 1", "colour b 1 0 1", "wash a b never", "wash b a never", "kind k 1 1", "slots 0"]
        self.told(["washing a b", "washing b b b", "washing a a a a a a a"], "never", "0 b b b", "0 a a a a a a a",
                  ahead=rows)

    def test_washing_is_of_a_new_pot(self):
        self.told(["washing blue", "at 0 empty north", "washing blue"], "0 blue", "0 blue")

    def test_strike(self):
        self.told(["strike 0", "state north 0", "strike 0", "strike 1", "strike 1000000000"],
                  "done", "out", "refused", "refused", "refused")

    def test_right(self):
        self.told(["right 0 3 fill south clear", "state north 3", "state south 3", "state south 2", "right 0 0 empty north",
                   "voids 0", "right 1 0 empty north", "right 1000000000 9999 new north 0"],
                  "done", "out", "filled", "out", "done", "0 none", "refused", "refused")
        self.told(["right 0 0 gather eve west dish 999", "voids 0", "right 0 9999 wash north 999", "voids 9999",
                   "right 0 1 break north", "state north 1"], "done", "0 name", "done", "-", "done", "broken")

    def test_undo(self):
        self.told(["undo", "state north 0", "undo"], "done", "out", "none")
        self.told(["undo", "undo"], "none", "none", ahead=HEAD)
        self.told(["strike 0", "right 0 1 empty north", "undo", "state north 0", "undo", "undo"],
                  "done", "refused", "done", "filled", "done", "none")
        self.told(["right 0 1 fill south blue", "undo", "state north 0", "state south 1"], "done", "done", "filled", "out")

    def test_numbers_behind_undo(self):
        self.told(["at 1 empty north", "undo", "at 2 empty south", "voids 9", "strike 1", "at 3 empty south", "voids 9"],
                  "done", "1 none", "done", "2 none")

    def test_of_the_book_as_the_rows_ahead_left_it(self):
        self.told(["state north 9", "at 3 break north", "state north 9", "state north 2"], "ready", "broken", "melting")

    def test_asks_and_entries_mixed(self):
        self.told(["pieces 0", "at 9 gather ann north cup 1", "pieces 9", "at 4 empty north", "pieces 9", "undo", "pieces 9"],
                  "-", "cup amber 1", "-", "done", "cup amber 1")

    def test_a_hundred_and_twenty(self):
        rows = ["at 0 empty p", "undo"] * 110 + ["at 1 empty p"] * 10
        self.told(rows + ["voids 0"], *["done"] * 110 + ["-"], ahead=LEAST)
        self.told(["at 0 empty p"] * 120 + ["voids 0"], "; ".join([f"{number} name" for number in range(120)]), ahead=LEAST)


class Refused(unittest.TestCase):
    def refused(self, rows, number):
        check_bad_row(self, run, rows, number)

    def wrong(self, *rows):
        for row in rows:
            self.refused(FILLED + [row], 16)
            self.refused(FILLED + ["undo", row, "undo"], 17)

    def test_asks(self):
        self.wrong("state", "state north", "state 0", "state 0 north", "state north -1", "state north 10000", "state north 01",
                   "state north 0 0", "state North 0", "state * 0", "State north 0", "state  north 0", "state north 0 ",
                   "state abcdefghi 0", "state north x")
        self.wrong("glass", "glass north", "glass north 10000", "glass * 0", "glass north 0 0", "glass 1 0")
        for word in ("pieces", "voids", "tunnel"):
            self.wrong(word, word + " x", word + " 10000", word + " 00", word + " 0 0", word + " -1", word + " +1",
                       word + " north", word + " ", " " + word + " 0", word.upper() + " 0", word + "  0")
        self.wrong("sums", "sums 0", "sums amber", "sums amber 10000", "sums 0 amber", "sums ** 0", "sums - 0", "sums amber 0 0",
                   "sums abcdefghi 0", "sums Amber 0", "sums  0")
        self.wrong("lacking", "lacking 0 cup amber", "lacking 0 cup amber 1000000001", "lacking 10000 cup amber 1",
                   "lacking 0 * amber 1", "lacking 0 cup amber -1", "lacking 0 cup amber 01", "lacking 0 cup amber 1 1",
                   "lacking cup amber 1 0", "lacking 0 cup ** 1", "lacking 0 cup 1 1", "lacking 0 cup amber cup")

    def test_deeds(self):
        self.wrong("strike", "strike x", "strike -1", "strike 01", "strike 1000000001", "strike 0 0", "strike *", "strike  0")
        self.wrong("undo 1", "undo undo", "undo ", " undo", "Undo", "undone", "undo 0")
        self.wrong("right", "right 0", "right 0 0", "right 0 0 fill", "right 0 0 fill north", "right 0 10000 empty north",
                   "right 1000000001 0 empty north", "right 0 empty north", "right 0 0 empty north 0", "right 0 0 wash north 1000",
                   "right -1 0 empty north", "right 00 0 empty north", "right 0 00 empty north", "right 0 0 gather a b c 0",
                   "right 0 0 at", "right 0 0 strike 0", "right x 0 empty north", "right 0 x empty north")

    def test_washing(self):
        self.wrong("washing", "washing green", "washing amber green", "washing *", "washing 0", "washing ", "washing amber ",
                   "washing amber  blue", "washing Amber", "washing north", "washing" + " amber" * 8, "washing never")

    def test_other_words(self):
        self.wrong("", " ", "rows 0", "entries", "len", "twin", "ask 0", "0", "-", "slots 12", "pot west", "colour z 1 0 1",
                   "kind z 1 1", "team z 1", "wash clear blue 1", "at", "at 0", "at 0 undo", "at 10000 empty north",
                   "at 0 empty north 0", "*")

    def test_ahead_of_the_row_of_slots(self):
        for row in ("undo", "strike 0", "state north 0", "pieces 0", "washing amber", "right 0 0 empty north"):
            for number in range(15):
                self.refused(HEAD[:number] + [row] + HEAD[number:], number)

    def test_as_book_from(self):
        self.refused([""], 0)
        self.refused(HEAD[:14], 14)
        self.refused(HEAD[:3], 3)
        self.refused(HEAD[7:], 0)
        self.refused(HEAD + [""], 15)
        self.refused(["colour a 21 0 1"] + LEAST[1:], 0)
        self.refused(LEAST + ["slots 0"], 3)

    def test_ahead_of_all_answers(self):
        self.refused(FILLED + ["state north 0", "strike 9", "undo", "undo", "state north"], 20)
        self.refused(FILLED + ["state north", "glass north"], 16)

    def test_the_hundred_and_twenty_first(self):
        self.refused(LEAST + ["at 0 empty p"] * 121, 123)
        self.refused(LEAST + ["at 0 empty p", "undo"] * 121, 243)
        self.refused(LEAST + ["at 0 empty p"] * 100 + ["undo"] * 100 + ["at 0 empty p"] * 21, 223)
        self.refused(LEAST + ["at 0 empty p"] * 120 + ["strike 0", "undo", "voids 0", "at 0 empty p", "undo"], 126)

    def test_far_figures(self):
        self.wrong("strike " + "9" * 5000, "state north " + "1" * 5000)


def slow_colour(colour):
    return colour if colour else "*"


def slow_answer(book, words):
    """The answer by a Book and its Account, or None of a row of at."""
    word = words[0]
    if word == "at":
        book.enter(deed_of(words[2:]), int(words[1]))
        return None
    if word == "undo":
        return {True: "done", False: "none"}[book.undo()]
    try:
        if word == "strike":
            book.strike(int(words[1]))
            return "done"
        if word == "right":
            book.put_right(int(words[1]), deed_of(words[3:]), int(words[2]))
            return "done"
        if word == "state":
            return Account(book, int(words[2])).state(words[1])
        if word == "glass":
            glass = Account(book, int(words[2])).glass(words[1])
            return f"{slow_colour(glass[0])} {glass[1]}" if glass else "-"
    except NoSuch:
        return "refused"
    if word == "pieces":
        rows = Account(book, int(words[1])).pieces()
        return "; ".join(f"{kind} {slow_colour(colour)} {many}" for kind, colour, many in rows) or "-"
    if word == "voids":
        return "; ".join(f"{number} {why}" for hour, number, why in Account(book, int(words[1])).voids()) or "-"
    if word == "tunnel":
        rows = Account(book, int(words[1])).tunnel()
        return "; ".join(f"{slot} {kind} {slow_colour(colour)} {out}" for slot, kind, colour, out in rows) or "-"
    if word == "sums":
        return "%d %d %d %d %d" % Account(book, int(words[2])).sums(words[1].replace("*", ""))
    if word == "lacking":
        orders = [(words[2], words[3].replace("*", ""), int(words[4]))]
        return str(Account(book, int(words[1])).lacking(orders)[0])
    hours, row = least_washing(book.palette, words[1:])
    return "never" if row is None else f"{hours} {' '.join(row)}"


def deed_of(words):
    return tuple([int(word) if word.isdigit() else word for word in words])


def random_row(rng, hours):
    """A row that may stand behind that of slots."""
    hour = rng.randrange(hours)
    pot = rng.choice(["north", "south", "north", "south", "west"])
    colour = rng.choice(["amber", "blue", "clear", "*", "green"])
    deed = words_of(random_deed(rng))
    some = " ".join(rng.choice(["amber", "blue", "clear"]) for _ in range(rng.randrange(1, 8)))
    rows = [f"right {rng.randrange(30)} {hour} {deed}", f"strike {rng.randrange(30)}", "undo", f"state {pot} {hour}",
            f"glass {pot} {hour}", f"pieces {hour}", f"voids {hour}", f"tunnel {hour}", f"sums {colour} {hour}",
            f"lacking {hour} {rng.choice(['cup', 'bowl', 'jug', 'dish'])} {colour} {rng.randrange(9)}", f"washing {some}"]
    return f"at {hour} {deed}" if rng.random() < 0.4 else rng.choice(rows)


class AgainstABook(unittest.TestCase):
    def test_answers_are_what_a_book_and_its_account_tell(self):
        rng = random.Random(211)
        seen = set()
        for seed in range(60):
            ahead = book_text(random_book(seed, rng.choice([0, 10, 40]), 40)).split("\n")
            rows = [random_row(rng, rng.choice([10, 40])) for _ in range(70)]
            book = book_from(text(ahead))
            answers = [slow_answer(book, row.split(" ")) for row in rows]
            told = run(text(ahead + rows))
            self.assertEqual(told, [answer for answer in answers if answer is not None])
            seen |= {(row.split(" ")[0], answer in ("refused", "none", "-", "never"))
                     for row, answer in zip(rows, answers)}
        self.assertEqual(len(seen), 20)

    def test_refused_rows_against_a_slow_reading(self):
        rng = random.Random(212)
        seen = {"run": 0, "refused": 0}
        for _ in range(6000):
            written = text(FILLED + [random_row(rng, 40) for _ in range(8)])
            for _ in range(rng.choice([1, 1, 2])):
                written = bent_text(rng, written)
            bad = first_bad(written, desk=True)
            if bad is None:
                seen["run"] += 1
                self.assertIsInstance(run(written), list)
            else:
                seen["refused"] += 1
                check_bad_row(self, run, written.split("\n"), bad)
        self.assertGreater(seen["run"], 500)
        self.assertGreater(seen["refused"], 3000)


if __name__ == "__main__":
    unittest.main()
