"""Point [2]: what is refused wherever a ring and many are handed in."""

import unittest

from common import FAR, RefusalTest
from healring.errors import HealError, NoNumbers, NoRing
from healring.healing import healed, healing, turns
from healring.orders import drawn, traced
from healring.rings import able, gone, stepped

# Every way in which a ring and many are handed in, also with machines and
# orders that would be refused if the ring and many were good.
WAYS_IN = (
    ("able", lambda ring, many: able(ring, many)),
    ("stepped", lambda ring, many: stepped(ring, many, 0)),
    ("stepped, no such machine", lambda ring, many: stepped(ring, many, -1)),
    ("stepped, far beyond", lambda ring, many: stepped(ring, many, FAR)),
    ("gone, empty order", lambda ring, many: gone(ring, many, [])),
    ("gone", lambda ring, many: gone(ring, many, [0])),
    ("gone, no such machine", lambda ring, many: gone(ring, many, [-1])),
    ("drawn", lambda ring, many: drawn(ring, many, [1, 2], 3)),
    ("drawn, no steps", lambda ring, many: drawn(ring, many, [1, 2], 0)),
    ("drawn, no numbers", lambda ring, many: drawn(ring, many, [], 3)),
    ("drawn, neither", lambda ring, many: drawn(ring, many, [], 0)),
    ("traced, empty order", lambda ring, many: traced(ring, many, [])),
    ("traced", lambda ring, many: traced(ring, many, [0])),
    ("traced, no such machine", lambda ring, many: traced(ring, many, [-1])),
    ("traced, far beyond", lambda ring, many: traced(ring, many, [FAR])),
    ("healed", lambda ring, many: healed(ring, many)),
    ("healing", lambda ring, many: healing(ring, many, [1, 2])),
    ("healing, no numbers", lambda ring, many: healing(ring, many, [])),
    ("turns", lambda ring, many: turns(ring, many)),
)

WRONG_MANY = (1, 0, -1, -2, -100, 101, 102, 1000, FAR, -FAR)

GOOD_RINGS = (
    ((0, 0), 2),
    ((1, 1), 2),
    ((0, 1), 2),
    ((99, 99), 100),
    ((0, 99), 100),
    ((0,) * 12, 2),
    ((0,) * 12, 12),
    ((99,) * 12, 100),
    (tuple(range(12)), 12),
    (tuple(range(88, 100)), 100),
)

WRONG_RINGS = (
    ((), 2),
    ((), 100),
    ((0,), 2),
    ((99,), 100),
    ((0,) * 13, 2),
    ((0,) * 13, 13),
    ((99,) * 13, 100),
    ((0,) * 1000, 3),
    ((-1, 0), 2),
    ((0, -1), 2),
    ((0, -1, 0), 3),
    ((2, 0), 2),
    ((0, 2), 2),
    ((2, 2), 2),
    ((0, 3, 0), 3),
    ((0, 1, 3), 3),
    ((100, 0), 100),
    ((0, 100), 100),
    ((0, 0, 101), 100),
    ((0,) * 11 + (100,), 100),
    ((0,) * 11 + (-1,), 100),
    ((0,) * 5 + (2,) + (0,) * 6, 2),
    ((0, FAR), 100),
    ((-FAR, 0), 100),
)

# Many is wrong here, and the ring would be refused under a good many, too.
BOTH_WRONG = (
    ((), 1),
    ((), 101),
    ((0,), 0),
    ((0,) * 13, 101),
    ((-1, 0), 1),
    ((1, 0), 1),
    ((0, 0), 0),
    ((0, 0), -1),
    ((101, 0), 101),
    ((200, 0), 101),
    ((5,) * 13, -5),
    ((FAR,) * 13, FAR),
)


class HandedInTest(RefusalTest):
    def test_a_good_ring_is_taken(self):
        for ring, many in GOOD_RINGS:
            with self.subTest(ring=ring, many=many):
                machine = able(ring, many)[0]
                self.assertEqual(len(stepped(ring, many, machine)), len(ring))
                self.assertEqual(gone(ring, many, []), [ring])
                self.assertEqual(drawn(ring, many, [], 1), [machine])
                self.assertEqual(traced(ring, many, []), list(range(len(ring))))
                self.assertIn(healed(ring, many), (True, False))
                if healed(ring, many):
                    self.assertEqual(turns(ring, many)[0], machine)
                if many >= len(ring):
                    self.assertIs(type(healing(ring, many, [])), list)

    def test_many_from_2_to_100_and_machines_from_2_to_12_are_taken(self):
        for many in range(2, 101):
            for machines in range(2, 13):
                ring = (many - 1,) * machines
                self.assertEqual(able(ring, many), [0])
                self.assertEqual(drawn(ring, many, [1], 2), [0, 1])
                self.assertEqual(turns(ring, many), list(range(machines)))
                self.assertIs(healed(ring, many), True)
                self.assertEqual(traced(ring, many, [0]), [machines] + list(range(1, machines)))
                if many >= machines:
                    self.assertEqual(healing(ring, many, [1]), [])

    def test_a_wrong_many_is_refused(self):
        for many in WRONG_MANY:
            for name, call in WAYS_IN:
                with self.subTest(name=name, many=many.bit_length()):
                    self.refused(NoNumbers, call, (0, 0), many)
                    self.refused(NoNumbers, call, (0, 1, 0), many)

    def test_a_wrong_ring_is_refused(self):
        for at, (ring, many) in enumerate(WRONG_RINGS):
            for name, call in WAYS_IN:
                with self.subTest(name=name, at=at):
                    self.refused(NoRing, call, ring, many)

    def test_many_is_looked_at_before_the_ring(self):
        for at, (ring, many) in enumerate(BOTH_WRONG):
            for name, call in WAYS_IN:
                with self.subTest(name=name, at=at):
                    self.refused(NoNumbers, call, ring, many)

    def test_a_refusal_is_caught_as_heal_error_and_as_value_error(self):
        for name, call in WAYS_IN:
            for ring, many in (((0, 0), 1), ((0, 2), 2)):
                with self.subTest(name=name, ring=ring):
                    for kind in (HealError, ValueError):
                        with self.assertRaises(kind):
                            call(ring, many)


if __name__ == "__main__":
    unittest.main()
