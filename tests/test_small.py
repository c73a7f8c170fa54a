"""Points [12] and [13], and the section healring/small.py of the interface."""

import functools
import inspect
import unittest

from common import FAR, RefusalTest, behind, may_step, rings_of
from healring import small
from healring.errors import NoNumbers, NoRing, TooGreat
from healring.healing import healed, healing, most
from healring.rings import gone
from healring.small import never, worst

# machines and many of every size that has 300 rings or fewer
SIZES = (
    [(2, many) for many in range(2, 18)]
    + [(3, many) for many in range(2, 7)]
    + [(4, many) for many in range(2, 5)]
    + [(5, 2), (5, 3), (6, 2), (7, 2), (8, 2)]
)

# machines and many of the least size of each number of machines that has more
JUST_GREATER = (
    (2, 18), (3, 7), (4, 5), (5, 4), (6, 3), (7, 3), (8, 3), (9, 2), (10, 2), (11, 2), (12, 2),
)

WRONG_MANY = (1, 0, -1, -2, -100, 101, 102, 1000, FAR, -FAR)
WRONG_MACHINES = (1, 0, -1, -2, -12, 13, 14, 100, FAR, -FAR)


@functools.lru_cache(maxsize=None)
def longest_from(ring, many):
    """A plain search: the least of the longest orders ahead of the first healed ring, as a tuple."""
    machines = may_step(ring)
    if len(machines) == 1:
        return ()
    orders = [(machine,) + longest_from(behind(ring, many, machine), many) for machine in machines]
    return min(orders, key=lambda order: (-len(order), order))


def every_order(ring, many):
    """Each order from a ring up to the first healed ring, however many there are."""
    machines = may_step(ring)
    if len(machines) == 1:
        yield []
        return
    for machine in machines:
        for rest in every_order(behind(ring, many, machine), many):
            yield [machine] + rest


def comes_back(ring, many):
    """A plain search: whether an order leads from a ring back to it with no ring healed on the way."""
    reached = set()
    waiting = [ring]
    while waiting:
        ahead = waiting.pop()
        if len(may_step(ahead)) == 1:
            continue
        for machine in may_step(ahead):
            following = behind(ahead, many, machine)
            if following == ring:
                return True
            if following not in reached:
                reached.add(following)
                waiting.append(following)
    return False


class WorstTest(RefusalTest):
    """Point [12]."""

    def test_a_few_by_hand(self):
        # A ring of 2 is always healed; of 3 machines none lasts longer than
        # two steps, and the rings below (0, 2, 0) no longer than one.
        self.assertEqual(worst(2, 2), ((0, 0), []))
        self.assertEqual(worst(2, 17), ((0, 0), []))
        self.assertEqual(worst(3, 3), ((0, 2, 0), [0, 1]))
        self.assertEqual(worst(3, 6), ((0, 2, 0), [0, 1]))

    def test_every_size_by_a_plain_search(self):
        for machines, many in SIZES:
            if many >= machines:
                found = [(ring, list(longest_from(ring, many))) for ring in rings_of(machines, many)]
                right = min(found, key=lambda pair: (-len(pair[1]), pair[0]))
                with self.subTest(machines=machines, many=many):
                    self.assertEqual(worst(machines, many), right)

    def test_3_machines_by_all_their_orders(self):
        for many in range(3, 7):
            found = [(ring, order) for ring in rings_of(3, many) for order in every_order(ring, many)]
            right = min(found, key=lambda pair: (-len(pair[1]), pair))
            self.assertEqual(worst(3, many), right)

    def test_what_is_told_lasts_up_to_the_first_healed_ring(self):
        for machines, many in SIZES:
            if many >= machines:
                ring, order = worst(machines, many)
                rings = gone(ring, many, order)
                self.assertEqual([healed(ahead, many) for ahead in rings], [False] * len(order) + [True])
                self.assertLessEqual(len(order), most(machines))

    def test_no_drawn_order_lasts_longer(self):
        steps = len(worst(4, 4)[1])
        for ring in rings_of(4, 4):
            for numbers in ([], [1], [2], [3, 0, 1], [2, 1]):
                self.assertLessEqual(len(healing(ring, 4, numbers)), steps)

    def test_a_pair_of_a_ring_and_a_list_is_told(self):
        for machines, many in ((2, 2), (3, 3), (4, 4)):
            told = worst(machines, many)
            self.assertIs(type(told), tuple)
            self.assertEqual([type(part) for part in told], [tuple, list])
            self.assertEqual(len(told[0]), machines)

    def test_a_wrong_many_is_refused_ahead_of_all_else(self):
        for many in WRONG_MANY:
            for machines in (2, 3, 12) + WRONG_MACHINES:
                with self.subTest(machines=machines.bit_length(), many=many.bit_length()):
                    self.refused(NoNumbers, worst, machines, many)

    def test_a_wrong_number_of_machines_is_refused_then(self):
        for machines in WRONG_MACHINES:
            # Of 13 machines and more each of these is too great; 2 to 12
            # numbers are less than the machines, too.
            for many in (2, 3, 4, 12, 13, 17, 18, 99, 100):
                with self.subTest(machines=machines.bit_length(), many=many):
                    self.refused(NoRing, worst, machines, many)

    def test_fewer_numbers_than_machines_are_refused_then(self):
        for machines in range(3, 13):
            # From 9 machines on each of these is too great, too.
            for many in range(2, machines):
                with self.subTest(machines=machines, many=many):
                    self.refused(NoNumbers, worst, machines, many)

    def test_too_many_rings_are_refused_last(self):
        for machines in range(2, 13):
            for many in range(machines, 101):
                with self.subTest(machines=machines, many=many):
                    if (machines, many) in SIZES:
                        worst(machines, many)
                    else:
                        self.refused(TooGreat, worst, machines, many)


class NeverTest(RefusalTest):
    """Point [13]."""

    def test_a_few_by_hand(self):
        # A ring of 2 is always healed; from as many numbers as machines on each ring heals.
        for machines, many in ((2, 2), (2, 17), (3, 3), (3, 6), (4, 4)):
            self.assertIsNone(never(machines, many))
        # With 2 numbers 4 machines may go (0, 0, 1, 0), (1, 0, 1, 0), (1, 0, 1, 1) and so on.
        self.assertIsNotNone(never(4, 2))

    def test_every_size_by_a_plain_search(self):
        for machines, many in SIZES:
            with self.subTest(machines=machines, many=many):
                right = any(comes_back(ring, many) for ring in rings_of(machines, many))
                self.assertEqual(never(machines, many) is not None, right)

    def test_what_is_told_leads_back_with_no_ring_healed(self):
        told_of = 0
        for machines, many in SIZES:
            told = never(machines, many)
            if told is not None:
                told_of += 1
                with self.subTest(machines=machines, many=many):
                    self.check_told(told, machines, many)
        self.assertGreater(told_of, 0)

    def check_told(self, told, machines, many):
        self.assertIs(type(told), tuple)
        self.assertEqual([type(part) for part in told], [tuple, list])
        ring, order = told
        self.assertEqual(len(ring), machines)
        self.assertGreaterEqual(len(order), 1)
        self.assertEqual({type(number) for number in ring + tuple(order)}, {int})
        at = ring
        for machine in order:
            self.assertGreater(len(may_step(at)), 1)
            self.assertIn(machine, may_step(at))
            at = behind(at, many, machine)
        self.assertEqual(at, ring)
        self.assertEqual(gone(ring, many, order)[-1], ring)
        self.assertFalse(any(healed(ahead, many) for ahead in gone(ring, many, order)))

    def test_where_many_is_as_great_as_the_machines_each_order_heals(self):
        for machines, many in SIZES:
            if many >= machines:
                self.assertIsNone(never(machines, many))

    def test_a_wrong_many_is_refused_ahead_of_all_else(self):
        for many in WRONG_MANY:
            for machines in (2, 3, 12) + WRONG_MACHINES:
                with self.subTest(machines=machines.bit_length(), many=many.bit_length()):
                    self.refused(NoNumbers, never, machines, many)

    def test_a_wrong_number_of_machines_is_refused_then(self):
        for machines in WRONG_MACHINES:
            for many in (2, 3, 4, 12, 13, 17, 18, 99, 100):
                with self.subTest(machines=machines.bit_length(), many=many):
                    self.refused(NoRing, never, machines, many)

    def test_too_many_rings_are_refused_last(self):
        for machines in range(2, 13):
            for many in range(2, 101):
                with self.subTest(machines=machines, many=many):
                    if (machines, many) in SIZES:
                        never(machines, many)
                    else:
                        self.refused(TooGreat, never, machines, many)


class SizesTest(RefusalTest):
    """Where the rings are no more than 300, and where they are just more."""

    def test_the_sizes_of_these_tests(self):
        for machines, many in SIZES:
            self.assertLessEqual(many ** machines, 300)
        for machines, many in JUST_GREATER:
            self.assertGreater(many ** machines, 300)
            self.assertTrue(many == 2 or (machines, many - 1) in SIZES)

    def test_just_more_rings_are_refused(self):
        for machines, many in JUST_GREATER:
            with self.subTest(machines=machines, many=many):
                self.refused(TooGreat, never, machines, many)
                self.refused(TooGreat if many >= machines else NoNumbers, worst, machines, many)


class InterfaceTest(unittest.TestCase):
    """The section healring/small.py."""

    def test_each_function_is_defined_here_with_the_arguments_it_lists(self):
        for name in ("worst", "never"):
            with self.subTest(name=name):
                function = getattr(small, name)
                self.assertEqual(function.__module__, "healring.small")
                self.assertEqual(list(inspect.signature(function).parameters), ["machines", "many"])

    def test_the_arguments_can_be_handed_in_by_name(self):
        self.assertEqual(worst(many=3, machines=2), ((0, 0), []))
        self.assertIsNone(never(many=3, machines=2))


if __name__ == "__main__":
    unittest.main()
