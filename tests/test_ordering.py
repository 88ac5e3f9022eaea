import itertools
import random
import unittest

from potround.ordering import least_washing, washing_of

NAMES = tuple("abcdefgh")
PALETTE = (
    (("amber", 2, 10, 40), ("blue", 3, 0, 25), ("clear", 1, 8, 60), ("dusk", 1, 1, 1)),
    (("amber", "blue", 4), ("amber", "clear", None), ("blue", "amber", 1), ("blue", "clear", 2), ("clear", "amber", 7),
     ("clear", "blue", 3), ("dusk", "amber", None), ("dusk", "blue", None), ("dusk", "clear", None)),
)


def random_palette(rng):
    colours = tuple((name, 1, 1, 1) for name in NAMES)
    pairs = [(ahead, behind) for ahead in NAMES for behind in NAMES if ahead != behind]
    washes = [(ahead, behind, rng.choice([0, 1, 1, 2, 3, None])) for ahead, behind in pairs if rng.random() < 0.9]
    return (colours, tuple(washes))


def slow_least(palette, some, first):
    """Each order tried, rising, so that of several least ones the first is kept."""
    best = (None, None)
    for order in sorted(set(itertools.permutations(some))):
        hours = washing_of(palette, list(order), first)
        if hours is not None and (best[0] is None or hours < best[0]):
            best = (hours, list(order))
    return best


class WashingOf(unittest.TestCase):
    def test_none_and_one(self):
        self.assertEqual(washing_of(PALETTE, []), 0)
        self.assertEqual(washing_of(PALETTE, [], "dusk"), 0)
        self.assertEqual(washing_of(PALETTE, ["amber"]), 0)
        self.assertEqual(washing_of(PALETTE, ["amber"], None), 0)
        self.assertEqual(washing_of(PALETTE, ["amber"], "clear"), 7)
        self.assertEqual(washing_of(PALETTE, ["amber"], "amber"), 0)

    def test_several(self):
        self.assertEqual(washing_of(PALETTE, ["amber", "blue", "clear", "amber"]), 4 + 2 + 7)
        self.assertEqual(washing_of(PALETTE, ["amber", "blue", "clear", "amber"], "blue"), 1 + 4 + 2 + 7)
        self.assertEqual(washing_of(PALETTE, ["blue", "blue", "amber", "amber", "blue", "dusk", "dusk"]), 1 + 4)
        self.assertEqual(washing_of(first="clear", row=["blue", "amber"], palette=PALETTE), 3 + 1)

    def test_never_wherever_it_stands(self):
        self.assertIsNone(washing_of(PALETTE, ["clear"], "amber"))
        self.assertIsNone(washing_of(PALETTE, ["amber", "clear", "blue"]))
        self.assertIsNone(washing_of(PALETTE, ["blue", "clear", "amber", "blue", "amber", "amber", "clear"]))
        self.assertIsNone(washing_of(PALETTE, ["dusk", "amber"]))

    def test_row_changed_in_place(self):
        row = ["amber", "blue"]
        self.assertEqual(washing_of(PALETTE, row), 4)
        row[1] = "clear"
        self.assertIsNone(washing_of(PALETTE, row))
        row.pop()
        self.assertEqual(washing_of(PALETTE, row), 0)
        self.assertEqual(row, ["amber"])


class LeastWashing(unittest.TestCase):
    def test_none_and_one(self):
        self.assertEqual(least_washing(PALETTE, []), (0, []))
        self.assertEqual(least_washing(PALETTE, [], "dusk"), (0, []))
        self.assertEqual(least_washing(PALETTE, ["amber"]), (0, ["amber"]))
        self.assertEqual(least_washing(PALETTE, ["amber"], "clear"), (7, ["amber"]))

    def test_several(self):
        self.assertEqual(least_washing(PALETTE, ["amber", "blue", "clear"]), (4, ["clear", "blue", "amber"]))
        self.assertEqual(least_washing(PALETTE, ["clear", "blue"], None), (2, ["blue", "clear"]))
        self.assertEqual(least_washing(PALETTE, ["clear", "amber"], "blue"), (9, ["clear", "amber"]))
        self.assertEqual(least_washing(first="amber", some=["clear", "blue"], palette=PALETTE), (6, ["blue", "clear"]))

    def test_seven_some_several_times(self):
        some = ["clear", "blue", "amber", "blue", "dusk", "clear", "blue"]
        self.assertEqual(least_washing(PALETTE, some), slow_least(PALETTE, some, None))
        self.assertEqual(least_washing(PALETTE, some)[1][-1], "dusk")
        self.assertEqual(least_washing(PALETTE, ["amber"] * 7), (0, ["amber"] * 7))

    def test_the_first_of_several(self):
        bare = (PALETTE[0], ())
        self.assertEqual(least_washing(bare, ["dusk", "clear", "amber", "blue", "amber"]),
                         (0, ["amber", "amber", "blue", "clear", "dusk"]))

    def test_no_order(self):
        self.assertEqual(least_washing(PALETTE, ["amber"], "dusk"), (None, None))
        self.assertEqual(least_washing(PALETTE, ["amber", "clear"], "dusk"), (None, None))
        self.assertEqual(least_washing(PALETTE, ["clear"], "amber"), (None, None))
        apart = (PALETTE[0], (("amber", "blue", None), ("blue", "amber", None)))
        self.assertEqual(least_washing(apart, ["blue", "amber", "amber"]), (None, None))

    def test_as_each_order_tried(self):
        rng = random.Random(11)
        found = []
        for turn in range(150):
            palette = random_palette(rng)
            some = [rng.choice(NAMES[:2 + turn % 7]) for _ in range(rng.randrange(7))]
            first = rng.choice([None, *NAMES])
            before = list(some)
            told = least_washing(palette, some, first)
            self.assertEqual(told, slow_least(palette, some, first))
            self.assertEqual(some, before)
            found.append(told[0] is None)
        self.assertIn(True, found)
        self.assertIn(False, found)

    def test_seven_unlike_as_each_order_tried(self):
        palette = random_palette(random.Random(4))
        some = list("gdbface")
        self.assertEqual(least_washing(palette, some, "h"), slow_least(palette, some, "h"))

    def test_lists_are_the_askers_own(self):
        some = ["amber"]
        told = least_washing(PALETTE, some)
        told[1].append("blue")
        self.assertEqual(some, ["amber"])
        self.assertEqual(least_washing(PALETTE, some), (0, ["amber"]))
        nothing = least_washing(PALETTE, [])
        nothing[1].append("blue")
        self.assertEqual(least_washing(PALETTE, []), (0, []))

    def test_list_changed_in_place(self):
        some = ["amber", "blue"]
        self.assertEqual(least_washing(PALETTE, some), (1, ["blue", "amber"]))
        some[0] = "clear"
        self.assertEqual(least_washing(PALETTE, some), (2, ["blue", "clear"]))


if __name__ == "__main__":
    unittest.main()
