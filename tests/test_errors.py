import unittest

from potround.errors import BadRow, BadTally, Full, HallError, Never, NoSuch


class Fields(unittest.TestCase):
    def test_bad_tally_is_made_with_words(self):
        self.assertIn("six signs", str(BadTally("six signs")))

    def test_hall_error_is_made_with_words(self):
        self.assertIn("some words", str(HallError("some words")))

    def test_never(self):
        error = Never("amber", "clear")
        self.assertEqual((error.ahead, error.behind), ("amber", "clear"))

    def test_full(self):
        self.assertEqual(Full(12).slots, 12)

    def test_bad_row(self):
        self.assertEqual(BadRow(3).row, 3)

    def test_no_such(self):
        error = NoSuch("colour", "mauve")
        self.assertEqual((error.what, error.name), ("colour", "mauve"))

    def test_by_names(self):
        never = Never(behind="clear", ahead="amber")
        self.assertEqual((never.ahead, never.behind), ("amber", "clear"))
        self.assertEqual(Full(slots=0).slots, 0)
        self.assertEqual(BadRow(row=240).row, 240)
        none = NoSuch(name=7, what="entry")
        self.assertEqual((none.what, none.name), ("entry", 7))

    def test_no_such_of_a_name_of_any_make(self):
        for name in (None, True, 10 ** 5000, "", [1], ("a", None)):
            self.assertEqual(NoSuch("piece", name).name, name)


class Bases(unittest.TestCase):
    def test_each_stands_straight_under_its_base_alone(self):
        self.assertEqual(HallError.__bases__, (ValueError,))
        for error in (BadTally, Never, Full, BadRow):
            self.assertEqual(error.__bases__, (HallError,))
        self.assertEqual(NoSuch.__bases__, (LookupError,))

    def test_none_stands_under_another(self):
        errors = (BadTally, Never, Full, BadRow, NoSuch)
        for one in errors:
            for other in errors:
                self.assertEqual(issubclass(one, other), one is other)
        self.assertFalse(issubclass(NoSuch, ValueError))
        self.assertFalse(issubclass(NoSuch, HallError))
        self.assertFalse(issubclass(HallError, LookupError))


if __name__ == "__main__":
    unittest.main()
