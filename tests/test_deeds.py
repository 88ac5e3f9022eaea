import random
import unittest

from potround.deeds import is_deed
from tests.things import bent, check_bent, check_odd

DEEDS = [
    ("fill", "north", "amber"),
    ("wash", "north", 6),
    ("empty", "north"),
    ("gather", "ann", "north", "cup", 3),
    ("break", "north"),
    ("new", "north", 24),
]
# What may stand at each place: "n" a NAME, "h" hours, "m" many.
FORMS = {"fill": "nn", "wash": "nh", "empty": "n", "gather": "nnnm", "break": "n", "new": "nh"}


def slow_name(thing):
    return type(thing) is str and len(thing) in range(1, 9) and set(thing) <= set("abcdefghijklmnopqrstuvwxyz")


def slow_deed(thing):
    """The document's words, part by part."""
    if type(thing) is not tuple or not thing or type(thing[0]) is not str or thing[0] not in FORMS:
        return False
    form = FORMS[thing[0]]
    if len(form) != len(thing) - 1:
        return False
    for sort, part in zip(form, thing[1:]):
        if sort == "n":
            right = slow_name(part)
        else:
            right = type(part) is int and (0 if sort == "h" else 1) <= part <= 999
        if not right:
            return False
    return True


class IsDeed(unittest.TestCase):
    def right(self, *things):
        for thing in things:
            self.assertIs(is_deed(thing), True, thing)

    def wrong(self, *things):
        for thing in things:
            self.assertIs(is_deed(thing), False, thing)

    def test_the_six_forms(self):
        self.right(*DEEDS)
        self.assertIs(is_deed(thing=("empty", "a")), True)

    def test_bounds(self):
        self.right(("wash", "a", 0), ("wash", "abcdefgh", 999), ("new", "z", 0), ("new", "a", 999),
                   ("gather", "a", "b", "c", 1), ("gather", "a", "b", "c", 999))
        self.wrong(("wash", "a", -1), ("wash", "a", 1000), ("new", "a", -1), ("new", "a", 1000),
                   ("gather", "a", "b", "c", 0), ("gather", "a", "b", "c", 1000), ("gather", "a", "b", "c", -1),
                   ("wash", "a", 10 ** 30), ("new", "a", -10 ** 30))

    def test_too_few_and_too_many(self):
        for deed in DEEDS:
            for many in range(len(deed)):
                self.wrong(deed[:many])
            self.wrong(deed + ("a",), deed + (1,), deed + (None,), deed + (deed[-1],))

    def test_names(self):
        for deed in DEEDS:
            for at in range(1, len(deed)):
                if isinstance(deed[at], str):
                    for name in ("a", "z", "abcdefgh", "fill", "pot"):
                        self.right(deed[:at] + (name,) + deed[at + 1:])
                    for name in ("", "abcdefghi", "A", "aB", "a b", " a", "a ", "a1", "1", "a-b", "a~", 1, None, True,
                                 ["a"], ("a",)):
                        self.wrong(deed[:at] + (name,) + deed[at + 1:])

    def test_numbers(self):
        for deed in DEEDS:
            if isinstance(deed[-1], int):
                for number in (True, False, None, "1", "a", "", [1], (1,), ()):
                    self.wrong(deed[:-1] + (number,))

    def test_words(self):
        for deed in DEEDS:
            for word in ("Fill", "fil", "fills", "", " fill", "fill ", "pot", "at", "wash\n", 0, 1, None, True, [], (),
                         ["fill"], ("fill",), [[]]):
                self.wrong((word,) + deed[1:])
            for other in FORMS:
                if FORMS[other] != FORMS[deed[0]]:
                    self.wrong((other,) + deed[1:])

    def test_lists(self):
        for deed in DEEDS:
            self.wrong(list(deed), (deed,), [deed], " ".join([str(part) for part in deed]), deed[0])

    def test_things_of_any_make(self):
        check_odd(self, is_deed)
        for deed in DEEDS:
            check_bent(self, is_deed, deed)

    def test_against_a_slow_reading(self):
        rng = random.Random(171)
        answers = []
        for _ in range(4000):
            thing = rng.choice(DEEDS)
            for _ in range(rng.randrange(3)):
                thing = bent(rng, thing)
            answers.append(is_deed(thing))
            self.assertIs(answers[-1], slow_deed(thing), thing)
        self.assertGreater(answers.count(True), 1000)
        self.assertGreater(answers.count(False), 1000)

    def test_nothing_changed(self):
        thing = ("fill", ["north"], [["amber"]])
        self.wrong(thing)
        self.assertEqual(thing, ("fill", ["north"], [["amber"]]))


if __name__ == "__main__":
    unittest.main()
