"""Things of any make that is_.. may be asked about."""

import copy
import random

from potround.errors import BadRow, HallError

PLAIN = [0, 1, -1, 7, 24, 10 ** 30, -10 ** 30, True, False, None, "", "a", "amber", "Amber", "a b", "~", "abcdefghi"]


def deep(inner, wrap):
    for _ in range(8):
        inner = wrap(inner)
    return inner


def grown(rng, depth):
    """A thing of random make; the seed is fixed, so each run has the same."""
    if depth == 0 or rng.random() < 0.3:
        return rng.choice(PLAIN)
    parts = [grown(rng, depth - 1) for _ in range(rng.randrange(5))]
    return tuple(parts) if rng.random() < 0.5 else parts


def bent(rng, thing):
    """The thing with one of its parts changed for another, dropped, doubled or put into a list."""
    if not isinstance(thing, (list, tuple)) or not thing or rng.random() < 0.2:
        return rng.choice([rng.choice(PLAIN), [thing], (thing,)])
    parts = list(thing)
    at = rng.randrange(len(parts))
    way = rng.randrange(6)
    if way == 0:
        del parts[at]
    elif way == 1:
        parts.insert(at, parts[at])
    elif way == 2:
        return parts if isinstance(thing, tuple) else tuple(parts)
    else:
        parts[at] = bent(rng, parts[at])
    return tuple(parts) if isinstance(thing, tuple) else parts


def odd_things():
    """Things that are no palette, kinds, turns, rows or ring; the empty list is left out, for it is turns."""
    rng = random.Random(5)
    things = list(PLAIN)
    things += [(), [[]], ((),), ((), ()), [()], ([], []), "x" * 5000, [0] * 5000, (None,) * 4999, [()] * 5000]
    things += [deep(part, wrap) for part in (0, "a", None, ()) for wrap in (lambda x: [x], lambda x: (x,))]
    things += [deep(0, lambda x: (x, x)), deep("a", lambda x: [x, x])]
    grown_ones = [grown(rng, 8) for _ in range(1500)]
    return things + [thing for thing in grown_ones if thing != []]


def check_odd(test, ask):
    """Each odd thing is answered False itself, and stays as it was."""
    for thing in odd_things():
        before = copy.deepcopy(thing)
        test.assertIs(ask(thing), False)
        test.assertEqual(repr(thing), repr(before))


def check_bent(test, ask, right):
    """Things bent from a right one are answered True or False, never with an error."""
    rng = random.Random(8)
    answers = [ask(bent(rng, right)) for _ in range(3000)]
    test.assertTrue(all(answer is True or answer is False for answer in answers))
    test.assertIn(False, answers)


def check_like(test, one, other, answer):
    """Both are told to be equal, or unequal, from either side."""
    test.assertIs(one == other, answer)
    test.assertIs(other == one, answer)
    test.assertIs(one != other, not answer)


def check_bad_row(test, ask, rows, number):
    """A text of these rows is refused with BadRow at that number."""
    with test.assertRaises(BadRow) as caught:
        ask("\n".join(rows))
    test.assertEqual(caught.exception.row, number, rows)
    test.assertIsInstance(caught.exception, HallError)
