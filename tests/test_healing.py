"""Points [6], [10] and [11], and the section healring/healing.py of the interface."""

import functools
import inspect
import itertools
import unittest

from common import FAR, LONG_RINGS, NUMBERS, RefusalTest, behind, drawn_steps, may_step, rings_of, small_rings
from healring import healing as module
from healring.errors import NoNumbers, NoRing, NotHealed
from healring.healing import healed, healing, most, turns
from healring.orders import counted, drawn
from healring.rings import able, gone, stepped


def healing_rings():
    """Every ring of 2, 3 and 4 machines with as many numbers as machines, or one or two more, with many."""
    for machines in (2, 3, 4):
        for many in (machines, machines + 1, machines + 2):
            for ring in rings_of(machines, many):
                yield ring, many


def healed_rings():
    """Rings where just one machine may step: all numbers the same, or two of them, each in one stretch."""
    for machines in range(2, 13):
        for many in sorted({2, 3, max(2, machines - 1), machines, machines + 1, 100}):
            for number, other in ((0, 1), (1, 0), (many - 1, 0), (0, many - 1), (many - 2, many - 1)):
                for ahead in range(1, machines + 1):
                    yield (number,) * ahead + (other,) * (machines - ahead), many


class HealedTest(unittest.TestCase):
    """Point [6]: where a ring is healed."""

    def test_where_just_one_machine_may_step(self):
        for ring, many in (((0, 0), 2), ((0, 1), 2), ((1, 1, 0), 3), ((1, 0, 0), 2), ((2, 2, 2), 3), ((7,) * 12, 100)):
            with self.subTest(ring=ring):
                self.assertIs(healed(ring, many), True)

    def test_where_more_may_step(self):
        for ring, many in (
            ((0, 1, 0), 2), ((0, 1, 2), 3), ((0, 2, 0), 100), ((0, 0, 1, 2), 3), ((0, 0, 1, 0), 2), ((0, 1) * 6, 2),
        ):
            with self.subTest(ring=ring):
                self.assertIs(healed(ring, many), False)

    def test_every_small_ring_by_the_words_of_the_document(self):
        for ring, many in small_rings():
            self.assertIs(healed(ring, many), len(may_step(ring)) == 1)

    def test_a_ring_of_2_is_always_healed(self):
        for many in (2, 3, 100):
            for ring in rings_of(2, many):
                self.assertIs(healed(ring, many), True)

    def test_many_may_be_less_than_the_machines(self):
        self.assertIs(healed((1,) * 12, 2), True)
        self.assertIs(healed((1,) * 5 + (0,) * 7, 2), True)
        self.assertIs(healed((1,) * 5 + (0,) * 6 + (1,), 2), False)


class HealingTest(RefusalTest):
    """Point [6]: the machines that step up to the first healed ring."""

    def test_the_steps_up_to_the_first_healed_ring(self):
        # From (0, 2, 0) each machine may step; 1 and 2 heal it at once, and
        # behind 0 each of the other two does.
        self.assertEqual(healing((0, 2, 0), 3, []), [0, 1])
        self.assertEqual(healing((0, 2, 0), 3, [0]), [0, 1])
        self.assertEqual(healing((0, 2, 0), 3, [0, 1]), [0, 2])
        self.assertEqual(healing((0, 2, 0), 3, [1]), [1])
        self.assertEqual(healing((0, 2, 0), 3, [2]), [2])
        self.assertEqual(healing((0, 2, 0), 3, [3, 5]), [0, 2])
        # Of (0, 1, 2) the machines 1 and 2 may step.
        self.assertEqual(healing((0, 1, 2), 3, [2]), [1])
        self.assertEqual(healing((0, 1, 2), 3, [3]), [2])

    def test_none_where_it_is_healed_already(self):
        for ring, many in healed_rings():
            if many >= len(ring):
                for numbers in ([], [0], [3, 1]):
                    self.assertEqual(healing(ring, many, numbers), [])

    def test_by_the_words_of_the_document(self):
        for ring, many in list(healing_rings()) + list(LONG_RINGS):
            for numbers in NUMBERS:
                right = []
                for machine, ahead in drawn_steps(ring, many, numbers):
                    if len(may_step(ahead)) == 1:
                        break
                    right.append(machine)
                self.assertEqual(healing(ring, many, numbers), right, (ring, many, numbers))

    def test_it_is_the_beginning_of_what_is_drawn(self):
        for ring, many in LONG_RINGS:
            for numbers in NUMBERS:
                told = healing(ring, many, numbers)
                self.assertEqual(drawn(ring, many, numbers, len(told)), told)
                rings = gone(ring, many, told)
                self.assertTrue(healed(rings[-1], many))
                self.assertFalse(any(healed(ahead, many) for ahead in rings[:-1]))

    def test_many_less_than_the_machines_is_refused(self):
        for machines in range(3, 13):
            for many in range(2, machines):
                for ring in ((0,) * machines, (1,) + (0,) * (machines - 1), (0, 1) + (0,) * (machines - 2)):
                    for numbers in ([], [1, 2]):
                        with self.subTest(ring=ring, many=many):
                            self.refused(NoNumbers, healing, ring, many, numbers)

    def test_many_as_great_as_the_machines_or_one_more_is_taken(self):
        for machines in range(2, 13):
            for many in (machines, machines + 1):
                ring = (0, 1) + (0,) * (machines - 2)
                self.assertTrue(healed(gone(ring, many, healing(ring, many, [1]))[-1], many))

    def test_the_ring_is_refused_ahead_of_too_few_numbers(self):
        for ring, many in (
            ((0, 2, 0), 2), ((0, -1, 0), 2), ((0,) * 13, 2), ((0,) * 13, 12), ((5,) * 6, 5), ((3,) * 4, 3),
        ):
            with self.subTest(ring=ring, many=many):
                self.refused(NoRing, healing, ring, many, [])

    def test_a_list_of_whole_numbers_is_told(self):
        for ring, steps in (((0, 0, 0), 0), ((0, 2, 0), 2)):
            told = healing(ring, 3, [])
            self.assertIs(type(told), list)
            self.assertEqual([type(machine) for machine in told], [int] * steps)


class MostTest(RefusalTest):
    """Point [10]: the number itself."""

    def test_three_times_the_machines_times_one_less_halved(self):
        right = [3, 9, 18, 30, 45, 63, 84, 108, 135, 165, 198]
        told = [most(machines) for machines in range(2, 13)]
        self.assertEqual(told, right)
        self.assertEqual([type(number) for number in told], [int] * 11)

    def test_a_wrong_number_of_machines_is_refused(self):
        for machines in (1, 0, -1, -2, -12, 13, 14, 100, FAR, -FAR):
            with self.subTest(machines=machines.bit_length()):
                self.refused(NoRing, most, machines)


class PromiseTest(unittest.TestCase):
    """Points [10] and [11]: what is promised of every order."""

    @functools.lru_cache(maxsize=None)
    def most_ahead(self, ring, many):
        """Of all orders: the most steps ahead of the first healed ring, and the most of machine 0."""
        if healed(ring, many):
            return 0, 0
        steps, zeros = 0, 0
        for machine in able(ring, many):
            further, further_zeros = self.most_ahead(stepped(ring, many, machine), many)
            steps = max(steps, 1 + further)
            zeros = max(zeros, further_zeros + (machine == 0))
        return steps, zeros

    def test_in_whatever_order_a_small_ring_heals_in_time(self):
        for ring, many in healing_rings():
            steps, zeros = self.most_ahead(ring, many)
            self.assertLessEqual(steps, most(len(ring)), (ring, many))
            self.assertLess(zeros, len(ring), (ring, many))

    def test_a_drawn_order_heals_in_time(self):
        for ring, many in list(healing_rings()) + list(LONG_RINGS):
            for numbers in NUMBERS:
                order = healing(ring, many, numbers)
                self.assertLessEqual(len(order), most(len(ring)), (ring, many, numbers))
                self.assertLess(counted(order, len(ring))[0], len(ring), (ring, many, numbers))

    def test_from_the_healed_ring_on_the_machines_step_in_turn(self):
        for ring, many in list(healing_rings()) + list(LONG_RINGS):
            for numbers in ([], [2, 1, 0], [7, 0, 1]):
                self.check_turns(gone(ring, many, healing(ring, many, numbers))[-1], many)

    def test_from_every_healed_ring_on_whatever_many_is(self):
        for ring, many in healed_rings():
            self.check_turns(ring, many)

    def check_turns(self, ring, many):
        machines = len(ring)
        first = may_step(ring)[0]
        in_turn = turns(ring, many)
        self.assertEqual(in_turn, list(range(first, machines)) + list(range(first)), (ring, many))
        self.assertEqual(drawn(ring, many, [5, 3], 2 * machines), in_turn * 2)
        for machine in in_turn:
            self.assertIs(healed(ring, many), True)
            self.assertEqual(able(ring, many), [machine])
            self.assertEqual(turns(ring, many)[0], machine)
            following = stepped(ring, many, machine)
            self.assertEqual(following, behind(ring, many, machine))
            ring = following
        self.assertEqual(able(ring, many), [first])


class TurnsTest(RefusalTest):
    """Point [11]: the next machines that step."""

    def test_the_next_machines_that_step(self):
        self.assertEqual(turns((0, 0), 2), [0, 1])
        self.assertEqual(turns((0, 1), 2), [1, 0])
        self.assertEqual(turns((0, 0, 0), 2), [0, 1, 2])
        self.assertEqual(turns((1, 0, 0), 2), [1, 2, 0])
        self.assertEqual(turns((1, 1, 0), 3), [2, 0, 1])
        self.assertEqual(turns((99,) * 12, 100), list(range(12)))
        self.assertEqual(turns((99,) * 11 + (0,), 100), [11, 0, 1, 2, 3, 4, 5, 6, 7, 8, 9, 10])

    def test_every_small_ring(self):
        for ring, many in small_rings():
            machines = may_step(ring)
            if len(machines) > 1:
                self.refused(NotHealed, turns, ring, many)
                continue
            steps = itertools.islice(drawn_steps(ring, many, []), len(ring))
            self.assertEqual(turns(ring, many), [machine for machine, _ in steps])

    def test_a_ring_that_is_not_healed_is_refused(self):
        for ring, many in list(LONG_RINGS) + [((0, 1, 0), 2), ((0, 1, 2), 3), ((0, 1) * 6, 2), ((0, 50, 0), 100)]:
            if len(may_step(ring)) > 1:
                with self.subTest(ring=ring, many=many):
                    self.refused(NotHealed, turns, ring, many)

    def test_many_and_the_ring_are_refused_ahead_of_what_is_not_healed(self):
        for ring, many in (((0, 1, 0), 1), ((0, 1, 0), 101), ((0, 1, 0), 0), ((0, 1) * 7, 1)):
            self.refused(NoNumbers, turns, ring, many)
        for ring, many in (((0, 2, 0), 2), ((0, -1, 0), 2), ((0, 1) * 7, 2), ((0, 1, 0, 2), 2)):
            self.refused(NoRing, turns, ring, many)

    def test_a_list_of_whole_numbers_is_told(self):
        told = turns((1, 0, 0), 2)
        self.assertIs(type(told), list)
        self.assertEqual([type(machine) for machine in told], [int, int, int])


class InterfaceTest(unittest.TestCase):
    """The section healring/healing.py."""

    def test_each_function_is_defined_here_with_the_arguments_it_lists(self):
        for name, arguments in (
            ("healed", ["ring", "many"]),
            ("healing", ["ring", "many", "numbers"]),
            ("most", ["machines"]),
            ("turns", ["ring", "many"]),
        ):
            with self.subTest(name=name):
                function = getattr(module, name)
                self.assertEqual(function.__module__, "healring.healing")
                self.assertEqual(list(inspect.signature(function).parameters), arguments)

    def test_the_arguments_can_be_handed_in_by_name(self):
        self.assertIs(healed(many=2, ring=(0, 0)), True)
        self.assertEqual(healing(numbers=[1], many=3, ring=(0, 2, 0)), [1])
        self.assertEqual(most(machines=2), 3)
        self.assertEqual(turns(many=2, ring=(0, 0)), [0, 1])


if __name__ == "__main__":
    unittest.main()
