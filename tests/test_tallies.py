import random
import unittest

from potround.errors import BadTally
from potround.tallies import both_tally, either_tally, tally_hours, tally_of, turned_tally

BAD = ["", "0", "00000", "0000000", "00000000", "00000A", "ABCDEF", "00000g", "-00001", "+00001", "0x0001", "0x00001",
       "0X0001", " 00001", "00001 ", "0000 1", "      ", "0_0001", "00_001", "00000.", "`00000", ":00000", "/00000",
       "000000\n", "00000\n", "\t00000", "x" * 5000, "0" * 5000, "\u0660" * 6, "\uff10" * 6]


def some_days():
    rng = random.Random(3)
    return [sorted(rng.sample(range(24), rng.randrange(25))) for _ in range(200)]


class TallyOf(unittest.TestCase):
    def test_none_and_all(self):
        self.assertEqual(tally_of([]), "000000")
        self.assertEqual(tally_of(list(range(24))), "ffffff")

    def test_each_hour(self):
        for hour in range(24):
            self.assertEqual(tally_of([hour]), format(2 ** hour, "06x"))
        self.assertEqual(tally_of([23]), "800000")

    def test_any_order_and_twice(self):
        self.assertEqual(tally_of([4, 0, 23, 11, 9]), "800a11")
        self.assertEqual(tally_of([23, 11, 9, 4, 0]), "800a11")
        self.assertEqual(tally_of(hours=[0, 4, 4, 0, 9, 23, 11, 9, 9, 9]), "800a11")

    def test_hours_stay_as_they_were(self):
        hours = [5, 1, 5, 3]
        self.assertEqual(tally_of(hours), "00002a")
        self.assertEqual(hours, [5, 1, 5, 3])

    def test_list_changed_in_place(self):
        hours = [1]
        self.assertEqual(tally_of(hours), "000002")
        hours[0] = 2
        self.assertEqual(tally_of(hours), "000004")


class TallyHours(unittest.TestCase):
    def test_way_back(self):
        self.assertEqual(tally_hours("000000"), [])
        self.assertEqual(tally_hours("ffffff"), list(range(24)))
        self.assertEqual(tally_hours(text="800a11"), [0, 4, 9, 11, 23])
        for hours in some_days():
            self.assertEqual(tally_hours(tally_of(hours)), hours)

    def test_lists_are_the_askers_own(self):
        told = tally_hours("000003")
        told.append(9)
        self.assertEqual(tally_hours("000003"), [0, 1])

    def test_refused(self):
        for text in BAD:
            with self.assertRaises(BadTally, msg=repr(text)):
                tally_hours(text)

    def test_each_sign(self):
        for code in range(32, 127):
            if chr(code) in "0123456789abcdef":
                self.assertEqual(tally_of(tally_hours("0000" + chr(code) + "0")), "0000" + chr(code) + "0")
            else:
                with self.assertRaises(BadTally, msg=chr(code)):
                    tally_hours("0000" + chr(code) + "0")

    def test_refused_of_other_things(self):
        for thing in (None, 0, True, b"000000", ["0"] * 6, ("0",) * 6):
            with self.assertRaises(BadTally, msg=repr(thing)):
                tally_hours(thing)


class Joined(unittest.TestCase):
    def test_both(self):
        self.assertEqual(both_tally("00000f", "0000fc"), "00000c")
        self.assertEqual(both_tally("ffffff", "800001"), "800001")
        self.assertEqual(both_tally("0000ff", "ff0000"), "000000")
        self.assertEqual(both_tally(other="00000f", one="000003"), "000003")

    def test_either(self):
        self.assertEqual(either_tally("00000f", "0000fc"), "0000ff")
        self.assertEqual(either_tally("000000", "000000"), "000000")
        self.assertEqual(either_tally("0000ff", "ff0000"), "ff00ff")
        self.assertEqual(either_tally(other="000001", one="800000"), "800001")

    def test_as_of_the_hours(self):
        days = some_days()
        for one, other in zip(days, days[1:]):
            told = both_tally(tally_of(one), tally_of(other))
            self.assertEqual(tally_hours(told), sorted(set(one) & set(other)))
            told = either_tally(tally_of(one), tally_of(other))
            self.assertEqual(tally_hours(told), sorted(set(one) | set(other)))


class Turned(unittest.TestCase):
    def test_by_nought_and_whole_days(self):
        for by in (0, 24, 48, 24 * 41666):
            self.assertEqual(turned_tally("800a11", by), "800a11")

    def test_by_less_than_a_day(self):
        self.assertEqual(turned_tally("000001", 1), "000002")
        self.assertEqual(turned_tally("000001", 23), "800000")
        self.assertEqual(turned_tally("800000", 1), "000001")
        self.assertEqual(turned_tally("c00001", 2), "000007")
        self.assertEqual(turned_tally("ffffff", 5), "ffffff")
        self.assertEqual(turned_tally("000000", 5), "000000")

    def test_by_much(self):
        # 10 ** 6 is 41,666 days and 16 hours.
        self.assertEqual(turned_tally("000001", 10 ** 6), "010000")
        self.assertEqual(turned_tally(by=10 ** 6, tally="000300"), "000003")

    def test_as_of_the_hours(self):
        for by, hours in enumerate(some_days()):
            told = turned_tally(tally_of(hours), by)
            self.assertEqual(tally_hours(told), sorted((hour + by) % 24 for hour in hours))


if __name__ == "__main__":
    unittest.main()
