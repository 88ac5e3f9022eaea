import random
import unittest

from potround.errors import BadRow, BadTally, Full, HallError, Never, NoSuch
from potround.tunnels import Tunnel
from tests.things import check_like, odd_things


def filled(slots, *cools):
    """A Tunnel into which pieces a, b, c .. went at hour 0, for so many hours."""
    tunnel = Tunnel(slots)
    for name, cool in zip("abcdefghijklm", cools):
        tunnel.enter(name, cool)
    return tunnel


class Slow:
    """The document's words, one hour and one slot at a time."""

    def __init__(self, slots, hour):
        self.slots = [None] * slots
        self.hour = hour

    def enter(self, name, cool):
        for slot, piece in enumerate(self.slots):
            if piece is None:
                self.slots[slot] = (name, cool)
                return slot
        return None

    def tick(self, many):
        told = []
        for _ in range(many):
            self.hour += 1
            for slot, piece in enumerate(self.slots):
                if piece is not None:
                    self.slots[slot] = (piece[0], piece[1] - 1) if piece[1] > 1 else None
                    if piece[1] == 1:
                        told.append((self.hour, slot, piece[0]))
        return told

    def inside(self):
        return [(slot,) + piece for slot, piece in enumerate(self.slots) if piece is not None]


class Beginning(unittest.TestCase):
    def test_empty(self):
        tunnel = Tunnel(3)
        self.assertEqual(tunnel.inside(), [])
        self.assertEqual(len(tunnel), 0)
        self.assertEqual(tunnel.now(), 0)

    def test_hour(self):
        self.assertEqual(Tunnel(3, 7).now(), 7)
        self.assertEqual(Tunnel(3, 10 ** 6).now(), 10 ** 6)
        self.assertEqual(Tunnel(hour=5, slots=0).now(), 5)
        self.assertEqual(Tunnel(slots=2).now(), 0)


class Enter(unittest.TestCase):
    def test_least_free_slot(self):
        tunnel = Tunnel(3)
        self.assertEqual(tunnel.enter("bowl", 5), 0)
        self.assertEqual(tunnel.enter("cup", 2), 1)
        self.assertEqual(tunnel.enter("bowl", 4), 2)
        tunnel.tick(2)
        self.assertEqual(tunnel.enter("jug", 9), 1)
        tunnel.tick(3)
        self.assertEqual(tunnel.enter("cup", 1), 0)
        self.assertEqual(tunnel.enter("dish", 99), 2)

    def test_cool_left_out(self):
        tunnel = Tunnel(2)
        self.assertEqual(tunnel.enter("bowl"), 0)
        self.assertEqual(tunnel.inside(), [(0, "bowl", 8)])
        self.assertEqual(tunnel.tick(7), [])
        self.assertEqual(tunnel.tick(), [(8, 0, "bowl")])

    def test_by_names(self):
        tunnel = Tunnel(2)
        self.assertEqual(tunnel.enter(cool=3, name="cup"), 0)
        self.assertEqual(tunnel.enter(name="jug"), 1)
        self.assertEqual(tunnel.inside(), [(0, "cup", 3), (1, "jug", 8)])

    def test_sixty_slots(self):
        tunnel = Tunnel(60)
        self.assertEqual([tunnel.enter("cup", 99) for _ in range(60)], list(range(60)))
        self.assertRaises(Full, tunnel.enter, "cup")

    def refused(self, tunnel, slots):
        before = (tunnel.inside(), tunnel.now(), len(tunnel))
        for _ in range(2):
            with self.assertRaises(Full) as caught:
                tunnel.enter("extra", 2)
            self.assertEqual(caught.exception.slots, slots)
            self.assertEqual((tunnel.inside(), tunnel.now(), len(tunnel)), before)
        self.assertRaises(NoSuch, tunnel.slot_of, "extra")

    def test_refused(self):
        self.refused(Tunnel(0), 0)
        self.refused(Tunnel(0, 9), 0)
        self.refused(filled(1, 5), 1)
        tunnel = filled(3, 9, 2, 9)
        self.refused(tunnel, 3)
        tunnel.tick(1)
        self.refused(tunnel, 3)
        tunnel.tick(1)
        self.assertEqual(tunnel.enter("extra", 1), 1)
        with self.assertRaises(Full):
            tunnel.enter("more")

    def test_refused_with_a_hall_error(self):
        for others in (BadTally, Never, BadRow, NoSuch):
            self.assertFalse(issubclass(Full, others) or issubclass(others, Full))
        self.assertEqual(Full.__bases__, (HallError,))
        self.assertEqual(NoSuch.__bases__, (LookupError,))
        with self.assertRaises(HallError):
            Tunnel(0).enter("cup")


class Tick(unittest.TestCase):
    def test_none(self):
        tunnel = filled(3, 1, 2)
        self.assertEqual(tunnel.tick(0), [])
        self.assertEqual(tunnel.now(), 0)
        self.assertEqual(tunnel.inside(), [(0, "a", 1), (1, "b", 2)])

    def test_one(self):
        tunnel = filled(3, 1, 2)
        self.assertEqual(tunnel.tick(), [(1, 0, "a")])
        self.assertEqual(tunnel.now(), 1)
        self.assertEqual(tunnel.inside(), [(1, "b", 1)])
        self.assertEqual(tunnel.tick(1), [(2, 1, "b")])
        self.assertEqual(tunnel.tick(many=1), [])
        self.assertEqual(tunnel.now(), 3)

    def test_many(self):
        tunnel = filled(5, 7, 3, 9, 3, 7)
        self.assertEqual(tunnel.tick(8), [(3, 1, "b"), (3, 3, "d"), (7, 0, "a"), (7, 4, "e")])
        self.assertEqual(tunnel.inside(), [(2, "c", 1)])
        self.assertEqual(tunnel.tick(9), [(9, 2, "c")])
        self.assertEqual(tunnel.now(), 17)

    def test_by_slots_not_by_names(self):
        tunnel = Tunnel(3)
        for name in ("c", "a", "b"):
            tunnel.enter(name, 4)
        self.assertEqual(tunnel.tick(4), [(4, 0, "c"), (4, 1, "a"), (4, 2, "b")])

    def test_by_hours_ahead_of_slots(self):
        tunnel = Tunnel(3)
        for cool in (3, 2, 1):
            tunnel.enter("cup", cool)
        self.assertEqual(tunnel.tick(3), [(1, 2, "cup"), (2, 1, "cup"), (3, 0, "cup")])

    def test_ten_thousand(self):
        tunnel = Tunnel(2, 10 ** 6)
        tunnel.enter("cup", 99)
        tunnel.enter("jug", 98)
        self.assertEqual(tunnel.tick(10 ** 4), [(10 ** 6 + 98, 1, "jug"), (10 ** 6 + 99, 0, "cup")])
        self.assertEqual(tunnel.now(), 1010000)
        self.assertEqual(tunnel.tick(10 ** 4), [])

    def test_each_cool_hours_behind_its_coming(self):
        tunnel = Tunnel(2, 5)
        tunnel.enter("cup", 4)
        tunnel.tick(3)
        tunnel.enter("jug", 4)
        self.assertEqual(tunnel.tick(1), [(9, 0, "cup")])
        self.assertEqual(tunnel.tick(2), [])
        self.assertEqual(tunnel.tick(1), [(12, 1, "jug")])

    def test_a_slot_free_from_that_hour_on(self):
        tunnel = filled(1, 3)
        tunnel.tick(2)
        self.assertRaises(Full, tunnel.enter, "b")
        tunnel.tick(1)
        self.assertEqual(tunnel.enter("b", 1), 0)


class Asked(unittest.TestCase):
    def test_inside_rises(self):
        tunnel = filled(4, 9, 2, 5, 9)
        tunnel.tick(2)
        self.assertEqual(tunnel.inside(), [(0, "a", 7), (2, "c", 3), (3, "d", 7)])
        tunnel.enter("z", 1)
        self.assertEqual(tunnel.inside(), [(0, "a", 7), (1, "z", 1), (2, "c", 3), (3, "d", 7)])
        self.assertEqual(len(tunnel), 4)

    def test_slot_of(self):
        tunnel = Tunnel(4)
        for name, cool in (("cup", 9), ("jug", 2), ("bowl", 9), ("cup", 5)):
            tunnel.enter(name, cool)
        self.assertEqual(tunnel.slot_of("cup"), [0, 3])
        self.assertEqual(tunnel.slot_of(name="bowl"), [2])
        tunnel.tick(2)
        tunnel.enter("cup", 1)
        # It went in last, into the slot that came free.
        self.assertEqual(tunnel.slot_of("cup"), [0, 1, 3])

    def test_slot_of_none(self):
        tunnel = filled(2, 1, 9)
        tunnel.tick(1)
        for name in ("a", "cup", "c"):
            with self.assertRaises(NoSuch) as caught:
                tunnel.slot_of(name)
            self.assertEqual((caught.exception.what, caught.exception.name), ("piece", name))
            self.assertIsInstance(caught.exception, LookupError)
        self.assertRaises(NoSuch, Tunnel(0).slot_of, "a")
        self.assertEqual(tunnel.inside(), [(1, "b", 8)])

    def test_told_the_same(self):
        tunnel = filled(3, 4, 5)
        self.assertEqual((tunnel.inside(), tunnel.now(), tunnel.slot_of("b"), len(tunnel)),
                         (tunnel.inside(), tunnel.now(), tunnel.slot_of("b"), len(tunnel)))

    def test_told_lists_changed_behind(self):
        tunnel = filled(3, 4, 5, 1)
        tunnel.inside().clear()
        tunnel.slot_of("b").append(2)
        gone = tunnel.tick(1)
        gone.append("more")
        self.assertEqual(tunnel.inside(), [(0, "a", 3), (1, "b", 4)])
        self.assertEqual(tunnel.slot_of("b"), [1])
        self.assertEqual(tunnel.tick(0), [])
        self.assertIsNot(tunnel.inside(), tunnel.inside())
        self.assertIsNot(tunnel.tick(0), tunnel.tick(0))

    def test_two_do_not_move_each_other(self):
        one, other = Tunnel(2), Tunnel(2)
        one.enter("cup", 3)
        self.assertEqual(other.inside(), [])
        other.tick(2)
        self.assertEqual((one.now(), other.now()), (0, 2))
        other.enter("jug", 3)
        other.tick(3)
        self.assertEqual(one.inside(), [(0, "cup", 3)])
        self.assertEqual(len(other), 0)


class Like(unittest.TestCase):
    def test_like_ones(self):
        check_like(self, Tunnel(3), Tunnel(3), True)
        check_like(self, Tunnel(0, 4), Tunnel(0, 4), True)
        check_like(self, filled(3, 4, 5), filled(3, 4, 5), True)
        tunnel = filled(3, 4)
        check_like(self, tunnel, tunnel, True)

    def test_like_by_other_ways(self):
        one = Tunnel(2, 3)
        one.enter("a", 5)
        other = Tunnel(2)
        other.tick(2)
        other.enter("a", 6)
        other.enter("b", 1)
        other.tick()
        check_like(self, one, other, True)
        # The slots are filled the other way round in time.
        turned = Tunnel(2, 2)
        turned.enter("x", 1)
        turned.enter("b", 9)
        turned.tick(1)
        turned.enter("a", 5)
        one.enter("b", 8)
        check_like(self, one, turned, True)

    def test_unlike(self):
        check_like(self, filled(3, 4), filled(4, 4), False)
        check_like(self, Tunnel(3), Tunnel(3, 1), False)
        check_like(self, filled(3, 4), filled(3, 5), False)
        check_like(self, filled(3, 4), filled(3, 4, 4), False)
        check_like(self, filled(3, 4), Tunnel(3), False)
        other = Tunnel(3)
        other.enter("b", 4)
        check_like(self, filled(3, 4), other, False)
        later = filled(3, 1, 4)
        later.tick()
        sooner = Tunnel(3, 1)
        sooner.enter("b", 3)
        check_like(self, later, sooner, False)

    def test_same_left_at_another_hour(self):
        one, other = filled(3, 4), filled(3, 5)
        other.tick()
        self.assertEqual(one.inside(), other.inside())
        check_like(self, one, other, False)

    def test_other_things(self):
        tunnel = Tunnel(1)
        for other in odd_things()[:60] + [[], {}, object(), Tunnel, (1, 0, []), "Tunnel(1)"]:
            check_like(self, tunnel, other, False)


class AgainstASlowReading(unittest.TestCase):
    def test_many_deeds(self):
        rng = random.Random(161)
        fulls = 0
        for _ in range(150):
            slots, hour = rng.randrange(6), rng.randrange(30)
            tunnel, slow = Tunnel(slots, hour), Slow(slots, hour)
            for _ in range(40):
                if rng.random() < 0.6:
                    name, cool = rng.choice(["a", "b", "cup"]), rng.randrange(1, 12)
                    told = slow.enter(name, cool)
                    if told is None:
                        fulls += 1
                        self.assertRaises(Full, tunnel.enter, name, cool)
                    else:
                        self.assertEqual(tunnel.enter(name, cool), told)
                else:
                    many = rng.randrange(6)
                    self.assertEqual(tunnel.tick(many), slow.tick(many))
                self.assertEqual(tunnel.inside(), slow.inside())
                self.assertEqual(tunnel.now(), slow.hour)
                self.assertEqual(len(tunnel), len(slow.inside()))
        self.assertGreater(fulls, 100)


if __name__ == "__main__":
    unittest.main()
