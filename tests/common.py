"""What the test files share: a check of refusals, rings, and a plain model of the ring."""

import itertools
import unittest

from healring.errors import HealError

# Longer than Python writes out as a string: no refusal may trip over it.
FAR = 10 ** 5000

# Lists of numbers that draw orders: none, one, several, and numbers beyond
# any place of a machine that may step.
NUMBERS = (
    [],
    [0],
    [1],
    [2],
    [11],
    [0, 1],
    [1, 0],
    [2, 1, 0],
    [5, 0, 3],
    [3, 1, 4, 1, 5, 9, 2, 6],
    [12, 13, 100, 7, 1000003],
    [10 ** 30 + 1, 10 ** 30, 4],
    [19, 47, 8, 70, 33, 2, 91, 64, 5, 28, 16, 83, 57],
)

# Rings of many machines, with many as great as the machines or greater.
LONG_RINGS = (
    ((0, 0, 0, 0, 0), 5),
    ((4, 3, 2, 1, 0), 5),
    ((0, 5, 0, 5, 0, 5), 6),
    ((0, 6, 5, 4, 3, 2, 1), 7),
    ((1, 0, 7, 6, 7, 0, 1, 1), 8),
    ((8, 1, 7, 2, 6, 3, 5, 4, 8), 10),
    ((3, 1, 4, 1, 5, 9, 2, 6, 5, 3), 10),
    ((0, 1) * 5 + (0,), 11),
    ((0, 11) * 6, 12),
    ((5,) * 12, 12),
    (tuple(range(12)), 12),
    (tuple(range(11, -1, -1)), 12),
    ((0, 10, 9, 8, 7, 6, 5, 4, 3, 2, 1, 0), 13),
    ((99, 98, 97, 96, 95, 94, 93, 92, 91, 90, 89, 99), 100),
    ((99, 0) * 6, 100),
)


class RefusalTest(unittest.TestCase):
    def refused(self, kind, call, *told):
        """Check that a call is refused, and by this very class."""
        with self.assertRaises(HealError) as caught:
            call(*told)
        self.assertIs(type(caught.exception), kind)
        self.assertIsInstance(caught.exception, ValueError)


def rings_of(machines, many):
    """Every ring of so many machines and numbers, the least first."""
    return list(itertools.product(range(many), repeat=machines))


def small_rings():
    """Every ring of 2 to 4 machines and 2 to 4 numbers, with many."""
    for machines in range(2, 5):
        for many in range(2, 5):
            for ring in rings_of(machines, many):
                yield ring, many


# The model: what the document says of steps, told anew and without the program.


def may_step(ring):
    """The machines that may step, rising."""
    found = [0] if ring[0] == ring[len(ring) - 1] else []
    return found + [k for k in range(1, len(ring)) if ring[k] != ring[k - 1]]


def behind(ring, many, machine):
    """The ring when a machine that may has stepped."""
    numbers = list(ring)
    numbers[machine] = (ring[0] + 1) % many if machine == 0 else ring[machine - 1]
    return tuple(numbers)


def drawn_steps(ring, many, numbers):
    """The machines that step, drawn by numbers, with the ring ahead of each step, without an end."""
    at = 0
    while True:
        machines = may_step(ring)
        machine = machines[numbers[at] % len(machines)] if numbers else machines[0]
        yield machine, ring
        ring = behind(ring, many, machine)
        at = at + 1 if at + 1 < len(numbers) else 0


def orders_from(ring, many, longest):
    """Every order that can be gone from a ring, up to so many steps."""
    yield []
    if longest > 0:
        for machine in may_step(ring):
            for rest in orders_from(behind(ring, many, machine), many, longest - 1):
                yield [machine] + rest
