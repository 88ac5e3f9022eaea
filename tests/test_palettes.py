import copy
import unittest

from potround.errors import NoSuch
from potround.palettes import colour_row, is_kinds, is_palette, ready_at, wash_for
from tests.things import check_bent, check_odd

PALETTE = (
    (("amber", 2, 10, 40), ("blue", 3, 0, 25), ("clear", 1, 8, 60)),
    (("amber", "blue", 4), ("amber", "clear", None), ("blue", "amber", 0), ("clear", "amber", 7)),
)
KINDS = (("bowl", 2, 12), ("cup", 1, 8), ("vase", 9, 99))
NAMES = tuple("abcdefghijklmnopqrstuvwxyz")


def one_colour(row):
    return ((row,), ())


def one_wash(row):
    return (PALETTE[0], (row,))


def many_washes(many):
    colours = tuple((name, 1, 1, 1) for name in NAMES[:12])
    pairs = [(ahead, behind, 1) for ahead in NAMES[:12] for behind in NAMES[:12] if ahead != behind]
    return (colours, tuple(pairs[:many]))


class IsPalette(unittest.TestCase):
    def right(self, thing):
        before = copy.deepcopy(thing)
        self.assertIs(is_palette(thing), True, thing)
        self.assertEqual(thing, before)

    def wrong(self, thing):
        before = copy.deepcopy(thing)
        self.assertIs(is_palette(thing), False, thing)
        self.assertEqual(repr(thing), repr(before))

    def test_ordinary(self):
        self.right(PALETTE)
        self.assertIs(is_palette(thing=PALETTE), True)

    def test_how_many_colours(self):
        for many in (1, 2, 11, 12):
            self.right((tuple((name, 1, 1, 1) for name in NAMES[:many]), ()))
        for many in (0, 13, 26):
            self.wrong((tuple((name, 1, 1, 1) for name in NAMES[:many]), ()))

    def test_how_many_washes(self):
        for many in (0, 1, 59, 60):
            self.right(many_washes(many))
        for many in (61, 62, 132):
            self.wrong(many_washes(many))

    def test_bounds_of_numbers(self):
        for place, low, high in ((1, 1, 20), (2, 0, 99), (3, 1, 999)):
            row = ["amber", 5, 5, 5]
            for number in (low, low + 1, high - 1, high):
                row[place] = number
                self.right(one_colour(tuple(row)))
            for number in (low - 1, high + 1, -10 ** 9, 10 ** 9):
                row[place] = number
                self.wrong(one_colour(tuple(row)))

    def test_other_things_in_a_numbers_place(self):
        for place in (1, 2, 3):
            for part in (True, False, None, "1", (), [], (1,), [1]):
                row = ["amber", 1, 1, 1]
                row[place] = part
                self.wrong(one_colour(tuple(row)))

    def test_hours_of_a_wash(self):
        for hours in (0, 1, 98, 99, None):
            self.right(one_wash(("amber", "blue", hours)))
        for hours in (-1, 100, True, False, "", "1", (), [], (1,)):
            self.wrong(one_wash(("amber", "blue", hours)))

    def test_colours_rise(self):
        low, high = ("amber", 9, 9, 9), ("blue", 1, 1, 1)
        self.right(((low, high), ()))
        self.wrong(((high, low), ()))
        self.wrong((PALETTE[0][::-1], ()))

    def test_like_names(self):
        self.wrong(((("amber", 1, 1, 1), ("amber", 1, 1, 1)), ()))
        self.wrong(((("amber", 1, 1, 1), ("amber", 1, 1, 2)), ()))
        self.wrong(((("amber", 1, 1, 1), ("amber", 2, 1, 1), ("blue", 1, 1, 1)), ()))

    def test_washes_rise(self):
        rows = (("amber", "blue", 9), ("amber", "clear", 1), ("blue", "amber", 0))
        self.right((PALETTE[0], rows))
        self.wrong((PALETTE[0], rows[::-1]))
        self.wrong((PALETTE[0], (rows[1], rows[0])))
        self.wrong((PALETTE[0], (rows[0], rows[2], rows[1])))

    def test_like_ahead_and_like_behind(self):
        for one, other in ((1, 1), (1, 2), (0, None), (None, 0), (None, None)):
            self.wrong((PALETTE[0], (("amber", "blue", one), ("amber", "blue", other))))

    def test_colours_of_a_wash(self):
        self.wrong(one_wash(("amber", "amber", 5)))
        self.wrong(one_wash(("amber", "mauve", 5)))
        self.wrong(one_wash(("mauve", "amber", 5)))
        for part in (None, True, 0, (), [], ["amber"], ("amber",)):
            self.wrong(one_wash(("amber", part, 5)))
            self.wrong(one_wash((part, "amber", 5)))

    def test_names(self):
        for name in ("a", "z", "abcdefgh", "stuvwxyz", "zzzzzzzz"):
            self.right(one_colour((name, 1, 1, 1)))
        for name in ("", "abcdefghi", "Amber", "ambeR", "am ber", " amber", "amber ", "amber1", "a-b", "a_b", "`", "{"):
            self.wrong(one_colour((name, 1, 1, 1)))
        for name in (None, True, 1, (), [], ("a",), ["a"]):
            self.wrong(one_colour((name, 1, 1, 1)))
        for code in range(32, 127):
            self.assertIs(is_palette(one_colour(("a" + chr(code), 1, 1, 1))), chr(code) in NAMES)

    def test_lists_in_a_tuples_place(self):
        self.wrong(list(PALETTE))
        self.wrong((list(PALETTE[0]), PALETTE[1]))
        self.wrong((PALETTE[0], list(PALETTE[1])))
        self.wrong((([*PALETTE[0][0]],) + PALETTE[0][1:], PALETTE[1]))
        self.wrong((PALETTE[0], ([*PALETTE[1][0]],) + PALETTE[1][1:]))

    def test_parts_too_few_or_too_many(self):
        self.wrong(PALETTE[:1])
        self.wrong(PALETTE + ((),))
        self.wrong(one_colour(("amber", 1, 1)))
        self.wrong(one_colour(("amber", 1, 1, 1, 1)))
        self.wrong(one_colour(()))
        self.wrong(one_wash(("amber", "blue")))
        self.wrong(one_wash(("amber", "blue", 1, 1)))
        self.wrong(one_wash(()))

    def test_other_things_in_the_places_of_tuples(self):
        for part in (None, True, 0, "", "amber", "ab", []):
            self.wrong((part, ()))
            self.wrong((PALETTE[0], part))
            self.wrong(((part,), ()))
            self.wrong((PALETTE[0], (part,)))

    def test_any_other_thing(self):
        check_odd(self, is_palette)
        check_bent(self, is_palette, PALETTE)


class IsKinds(unittest.TestCase):
    def right(self, thing):
        self.assertIs(is_kinds(thing), True, thing)

    def wrong(self, thing):
        before = copy.deepcopy(thing)
        self.assertIs(is_kinds(thing), False, thing)
        self.assertEqual(repr(thing), repr(before))

    def test_ordinary(self):
        self.right(KINDS)
        self.assertIs(is_kinds(thing=KINDS), True)

    def test_how_many(self):
        for many in (1, 2, 19, 20):
            self.right(tuple((name, 1, 1) for name in NAMES[:many]))
        for many in (0, 21, 26):
            self.wrong(tuple((name, 1, 1) for name in NAMES[:many]))

    def test_bounds_of_numbers(self):
        for rank, cool in ((1, 1), (9, 99), (1, 99), (9, 1), (5, 50)):
            self.right((("cup", rank, cool),))
        for rank, cool in ((0, 5), (10, 5), (-1, 5), (5, 0), (5, 100), (5, -1)):
            self.wrong((("cup", rank, cool),))

    def test_other_things_in_a_numbers_place(self):
        for part in (True, False, None, "1", (), [1]):
            self.wrong((("cup", part, 5),))
            self.wrong((("cup", 5, part),))

    def test_rising_and_unlike(self):
        self.right((("cup", 9, 9), ("vase", 1, 1)))
        self.wrong((("vase", 1, 1), ("cup", 9, 9)))
        self.wrong((("cup", 1, 1), ("cup", 1, 1)))
        self.wrong((("cup", 1, 1), ("cup", 1, 2)))

    def test_names(self):
        self.right((("abcdefgh", 1, 1),))
        for name in ("", "abcdefghi", "Cup", "cu p", "cup0", "c_p", None, True, 1, (), ["cup"]):
            self.wrong(((name, 1, 1),))

    def test_shapes(self):
        self.wrong(list(KINDS))
        self.wrong((["cup", 1, 1],))
        self.wrong((("cup", 1),))
        self.wrong((("cup", 1, 1, 1),))
        self.wrong(("cup", 1, 1))
        self.wrong((None,))

    def test_any_other_thing(self):
        check_odd(self, is_kinds)
        check_bent(self, is_kinds, KINDS)


class Asked(unittest.TestCase):
    def refused(self, name, ask, *parts):
        with self.assertRaises(NoSuch) as caught:
            ask(*parts)
        self.assertEqual((caught.exception.what, caught.exception.name), ("colour", name))

    def test_colour_row(self):
        self.assertEqual(colour_row(PALETTE, "amber"), ("amber", 2, 10, 40))
        self.assertEqual(colour_row(PALETTE, "blue"), ("blue", 3, 0, 25))
        self.assertEqual(colour_row(colour="clear", palette=PALETTE), ("clear", 1, 8, 60))

    def test_colour_row_refused(self):
        for colour in ("mauve", "", "a", "amberr", None, 0, True, ["amber"], ("amber", 2, 10, 40)):
            self.refused(colour, colour_row, PALETTE, colour)

    def test_wash_for(self):
        self.assertEqual(wash_for(PALETTE, "amber", "blue"), 4)
        self.assertEqual(wash_for(PALETTE, "clear", "amber"), 7)
        self.assertEqual(wash_for(behind="blue", palette=PALETTE, ahead="amber"), 4)

    def test_wash_for_where_behind_may_never_follow(self):
        self.assertIsNone(wash_for(PALETTE, "amber", "clear"))

    def test_wash_for_nought(self):
        answers = [
            wash_for(PALETTE, "blue", "amber"),
            wash_for(PALETTE, "blue", "clear"),
            wash_for(PALETTE, "clear", "blue"),
            wash_for(PALETTE, "amber", "amber"),
            wash_for(PALETTE, None, "amber"),
            wash_for(PALETTE, None, "clear"),
            wash_for((PALETTE[0], ()), "amber", "clear"),
        ]
        self.assertEqual(answers, [0] * 7)
        self.assertTrue(all(type(answer) is int for answer in answers))

    def test_wash_for_refused_ahead_first(self):
        self.refused("mauve", wash_for, PALETTE, "mauve", "amber")
        self.refused("mauve", wash_for, PALETTE, "amber", "mauve")
        self.refused("green", wash_for, PALETTE, "green", "mauve")
        self.refused("mauve", wash_for, PALETTE, "mauve", "mauve")
        self.refused("mauve", wash_for, PALETTE, None, "mauve")
        self.refused(None, wash_for, PALETTE, "amber", None)

    def test_ready_at(self):
        self.assertEqual(ready_at(PALETTE, "amber"), 12)
        self.assertEqual(ready_at(PALETTE, "blue"), 3)
        self.assertEqual(ready_at(PALETTE, "clear", 5), 14)
        self.assertEqual(ready_at(PALETTE, "clear", 10 ** 6), 10 ** 6 + 9)
        self.assertEqual(ready_at(at=1, colour="amber", palette=PALETTE), 13)

    def test_ready_at_refused(self):
        self.refused("mauve", ready_at, PALETTE, "mauve")
        self.refused("mauve", ready_at, PALETTE, "mauve", 7)
        self.refused(None, ready_at, PALETTE, None)


if __name__ == "__main__":
    unittest.main()
