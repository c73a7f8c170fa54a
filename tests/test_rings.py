"""Points [1], [3] and [4], and the section healring/rings.py of the interface."""

import inspect
import unittest

from common import FAR, RefusalTest, small_rings
from healring import rings
from healring.errors import NoMachine, NotNow
from healring.rings import able, gone, stepped

# ring, many, the machines that may step, and the ring behind a step of each of them
STEPS = (
    ((0, 0), 2, [0], [(1, 0)]),
    ((1, 0), 2, [1], [(1, 1)]),
    ((1, 1), 2, [0], [(0, 1)]),
    ((0, 1), 2, [1], [(0, 0)]),
    ((2, 2), 3, [0], [(0, 2)]),
    ((1, 1), 3, [0], [(2, 1)]),
    ((98, 98), 100, [0], [(99, 98)]),
    ((99, 99), 100, [0], [(0, 99)]),
    ((0, 99), 100, [1], [(0, 0)]),
    ((99, 0), 100, [1], [(99, 99)]),
    ((0, 1, 2), 3, [1, 2], [(0, 0, 2), (0, 1, 1)]),
    ((1, 0, 1), 2, [0, 1, 2], [(0, 0, 1), (1, 1, 1), (1, 0, 0)]),
    ((1, 0, 1), 3, [0, 1, 2], [(2, 0, 1), (1, 1, 1), (1, 0, 0)]),
    ((2, 2, 0), 3, [2], [(2, 2, 2)]),
    ((2, 0, 0), 3, [1], [(2, 2, 0)]),
    ((0, 1, 0, 2), 3, [1, 2, 3], [(0, 0, 0, 2), (0, 1, 1, 2), (0, 1, 0, 0)]),
    ((2, 1, 1, 2), 3, [0, 1, 3], [(0, 1, 1, 2), (2, 2, 1, 2), (2, 1, 1, 1)]),
    ((0,) * 12, 2, [0], [(1,) + (0,) * 11]),
    ((1,) * 12, 2, [0], [(0,) + (1,) * 11]),
    ((99,) * 12, 100, [0], [(0,) + (99,) * 11]),
    ((0,) * 11 + (99,), 100, [11], [(0,) * 12]),
)


class AbleTest(unittest.TestCase):
    """Point [3]: which machines may step."""

    def test_the_machines_that_may_step(self):
        for ring, many, machines, _ in STEPS:
            with self.subTest(ring=ring, many=many):
                self.assertEqual(able(ring, many), machines)

    def test_all_but_machine_0_may_step_where_all_numbers_differ(self):
        self.assertEqual(able(tuple(range(12)), 12), list(range(1, 12)))
        self.assertEqual(able(tuple(range(99, 87, -1)), 100), list(range(1, 12)))

    def test_every_small_ring_by_the_words_of_the_document(self):
        for ring, many in small_rings():
            machines = [0] if ring[0] == ring[len(ring) - 1] else []
            for before in range(len(ring) - 1):
                if ring[before] != ring[before + 1]:
                    machines.append(before + 1)
            self.assertEqual(able(ring, many), machines)

    def test_a_list_of_whole_numbers_is_told(self):
        told = able((1, 0, 1), 2)
        self.assertIs(type(told), list)
        self.assertEqual([type(machine) for machine in told], [int, int, int])

    def test_the_list_is_a_new_one_each_time(self):
        first = able((1, 0, 1), 2)
        first.append(7)
        second = able((1, 0, 1), 2)
        self.assertEqual(second, [0, 1, 2])
        self.assertIsNot(first, second)
        second.clear()
        able((0, 0), 2)
        self.assertEqual(first, [0, 1, 2, 7])
        self.assertEqual(able((1, 0, 1), 2), [0, 1, 2])


class SteppedTest(RefusalTest):
    """Points [3] and [4]: what a step makes of a ring."""

    def test_a_step_of_each_machine_that_may(self):
        for ring, many, machines, behind in STEPS:
            with self.subTest(ring=ring, many=many):
                self.assertEqual([stepped(ring, many, k) for k in machines], behind)

    def test_machine_0_takes_the_next_number(self):
        for many in (2, 3, 12, 99, 100):
            for number in range(many):
                following = (number + 1) % many
                ring = (number,) * 12
                self.assertEqual(stepped(ring, many, 0), (following,) + (number,) * 11)

    def test_the_last_machine_takes_the_number_before_it(self):
        for machines in range(2, 13):
            ring = (0,) * (machines - 1) + (1,)
            self.assertEqual(stepped(ring, 2, machines - 1), (0,) * machines)

    def test_every_step_of_every_small_ring(self):
        for ring, many in small_rings():
            machines = able(ring, many)
            for machine in range(len(ring)):
                if machine not in machines:
                    self.refused(NotNow, stepped, ring, many, machine)
                    continue
                behind = list(ring)
                behind[machine] = (ring[0] + 1) % many if machine == 0 else ring[machine - 1]
                self.assertEqual(stepped(ring, many, machine), tuple(behind))

    def test_no_such_machine_is_refused(self):
        # Each of these rings but the last lets its last machine step, so that
        # -1 would go through if it were read as an index.
        for ring in ((0, 1), (0, 0, 1), (1, 0, 1), (0,) * 11 + (1,), (0, 0)):
            machines = len(ring)
            for machine in (-1, -2, -machines, -machines - 1, -FAR, machines, machines + 1, 100, FAR):
                with self.subTest(ring=ring, machine=machine.bit_length()):
                    self.refused(NoMachine, stepped, ring, 2, machine)

    def test_a_machine_that_may_not_step_is_refused(self):
        for ring, many, machines in (
            ((0, 0), 2, [1]),
            ((0, 1), 2, [0]),
            ((0, 0, 0), 3, [1, 2]),
            ((0, 1, 2), 3, [0]),
            ((2, 1, 1, 2), 3, [2]),
            ((99,) * 12, 100, list(range(1, 12))),
            (tuple(range(12)), 100, [0]),
        ):
            for machine in machines:
                with self.subTest(ring=ring, machine=machine):
                    self.refused(NotNow, stepped, ring, many, machine)

    def test_a_tuple_is_told_and_the_ring_stays_as_it_was(self):
        ring = (1, 0, 1)
        self.assertIs(type(stepped(ring, 2, 0)), tuple)
        self.assertEqual(ring, (1, 0, 1))


class GoneTest(RefusalTest):
    """Point [4]: what an order makes of a ring."""

    def test_an_empty_order_tells_the_first_ring_alone(self):
        for ring, many, _, _ in STEPS:
            self.assertEqual(gone(ring, many, []), [ring])

    def test_an_order_of_one_step(self):
        for ring, many, machines, behind in STEPS:
            for machine, after in zip(machines, behind):
                self.assertEqual(gone(ring, many, [machine]), [ring, after])

    def test_an_order_of_several_steps(self):
        self.assertEqual(
            gone((0, 1, 0, 2), 3, [3, 0, 2, 3]),
            [(0, 1, 0, 2), (0, 1, 0, 0), (1, 1, 0, 0), (1, 1, 1, 0), (1, 1, 1, 1)],
        )
        self.assertEqual(
            gone((2, 2), 3, [0, 1, 0, 1]),
            [(2, 2), (0, 2), (0, 0), (1, 0), (1, 1)],
        )

    def test_a_long_order(self):
        order = list(range(12)) * 200
        told = gone((0,) * 12, 100, order)
        self.assertEqual(len(told), 2401)
        self.assertEqual(told[12], (1,) * 12)
        self.assertEqual(told[-1], (0,) * 12)
        for ring, machine, after in zip(told, order, told[1:]):
            self.assertEqual(stepped(ring, 100, machine), after)

    def test_a_step_that_may_not_be_is_refused(self):
        for place, order in (
            ("first", [1]),
            ("first", [2, 0, 1]),
            ("middle", [0, 2, 1]),
            ("middle", [0, 0, 1, 2]),
            ("last", [0, 1, 0]),
            ("last", [0, 1, 2, 0, 2]),
        ):
            with self.subTest(place=place, order=order):
                self.refused(NotNow, gone, (0, 0, 0), 3, order)

    def test_a_step_of_no_machine_is_refused(self):
        for place, order in (
            ("first", [3]),
            ("first", [-1, 0]),
            ("middle", [0, 3, 1]),
            ("middle", [0, FAR, 1]),
            ("middle", [0, 1, -1, 0]),
            ("last", [0, 1, 3]),
            ("last", [0, 1, -1]),
            ("last", [0, 1, 2, -FAR]),
        ):
            with self.subTest(place=place, steps=len(order)):
                self.refused(NoMachine, gone, (0, 0, 0), 3, order)

    def test_the_first_step_that_cannot_be_tells_the_refusal(self):
        self.refused(NotNow, gone, (0, 0, 0), 3, [1, 3])
        self.refused(NotNow, gone, (0, 0, 0), 3, [0, 0, -1])
        self.refused(NoMachine, gone, (0, 0, 0), 3, [3, 1])
        self.refused(NoMachine, gone, (0, 0, 0), 3, [0, -1, 0])

    def test_a_list_of_tuples_is_told(self):
        told = gone((0, 0, 0), 3, [0, 1])
        self.assertIs(type(told), list)
        self.assertEqual([type(ring) for ring in told], [tuple, tuple, tuple])

    def test_the_list_is_a_new_one_each_time(self):
        for order, right in (([], [(0, 0)]), ([0], [(0, 0), (1, 0)])):
            with self.subTest(order=order):
                first = gone((0, 0), 2, order)
                first.append((1, 1))
                second = gone((0, 0), 2, order)
                self.assertEqual(second, right)
                second.clear()
                self.assertEqual(first, right + [(1, 1)])
                self.assertEqual(gone((0, 0), 2, order), right)

    def test_what_was_told_stays_when_the_order_changes_later(self):
        order = [0, 1]
        told = gone((0, 0, 0), 3, order)
        order.append(2)
        order[0] = 1
        self.assertEqual(told, [(0, 0, 0), (1, 0, 0), (1, 1, 0)])

    def test_the_order_and_the_ring_stay_as_they_were(self):
        ring = (0, 0, 0)
        order = [0, 1, 2, 0]
        told = gone(ring, 3, order)
        told.clear()
        self.assertEqual(order, [0, 1, 2, 0])
        self.assertEqual(ring, (0, 0, 0))

    def test_a_refused_order_stays_as_it_was(self):
        for kind, order in ((NotNow, [0, 2, 1]), (NoMachine, [0, 1, 3])):
            kept = list(order)
            self.refused(kind, gone, (0, 0, 0), 3, order)
            self.assertEqual(order, kept)


class InterfaceTest(unittest.TestCase):
    """The section healring/rings.py."""

    def test_each_function_is_defined_here_with_the_arguments_it_lists(self):
        for name, arguments in (
            ("able", ["ring", "many"]),
            ("stepped", ["ring", "many", "machine"]),
            ("gone", ["ring", "many", "order"]),
        ):
            with self.subTest(name=name):
                function = getattr(rings, name)
                self.assertEqual(function.__module__, "healring.rings")
                self.assertEqual(list(inspect.signature(function).parameters), arguments)

    def test_the_arguments_can_be_handed_in_by_name(self):
        self.assertEqual(able(many=2, ring=(0, 0)), [0])
        self.assertEqual(stepped(machine=0, many=2, ring=(0, 0)), (1, 0))
        self.assertEqual(gone(order=[0], many=2, ring=(0, 0)), [(0, 0), (1, 0)])


if __name__ == "__main__":
    unittest.main()
