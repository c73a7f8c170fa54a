"""Points [5] and [7] to [9], and the section healring/orders.py of the interface."""

import inspect
import itertools
import unittest

from common import (
    FAR, LONG_RINGS, NUMBERS, RefusalTest, behind, drawn_steps, may_step, orders_from, small_rings,
)
from healring import orders
from healring.errors import NoMachine, NoRing, NotNow
from healring.orders import counted, drawn, traced
from healring.rings import gone

LONGEST = 5


def small_orders():
    """Rings of 2 to 4 machines and 2 or 3 numbers, with many, each with every order of a few steps."""
    for ring, many in small_rings():
        if many < 4:
            for order in orders_from(ring, many, LONGEST):
                yield ring, many, order


class DrawnTest(unittest.TestCase):
    """Point [5]."""

    def test_by_no_numbers_it_is_always_place_0(self):
        # able: [1, 2, 3], [3], [0], [1], [2], [3], [0]
        self.assertEqual(drawn((0, 1, 0, 2), 3, [], 7), [1, 3, 0, 1, 2, 3, 0])
        self.assertEqual(drawn((1, 0, 1), 2, [], 4), [0, 2, 0, 1])

    def test_a_number_is_a_place_among_those_that_may_step(self):
        # able: [1, 2, 3], then [1, 3], then [1]
        self.assertEqual(drawn((0, 1, 0, 2), 3, [0], 2), [1, 3])
        self.assertEqual(drawn((0, 1, 0, 2), 3, [1], 3), [2, 3, 1])
        # able: [1, 2, 3], then [0, 1, 2], then [0, 1, 3]
        self.assertEqual(drawn((0, 1, 0, 2), 3, [2], 3), [3, 2, 3])

    def test_a_number_is_taken_by_how_many_may_step(self):
        # Three may step, then two, then one.
        self.assertEqual(drawn((0, 1, 0, 2), 3, [4, 3, 9], 3), [2, 3, 1])
        self.assertEqual(drawn((0, 1, 0, 2), 3, [301, 1001, 77], 3), [2, 3, 1])
        self.assertEqual(drawn((0, 1, 0, 2), 3, [3 * FAR + 1, 2 * FAR + 1, FAR], 3), [2, 3, 1])
        self.assertEqual(drawn((0, 1, 0, 2), 3, [3], 1), [1])
        self.assertEqual(drawn((0, 1, 0, 2), 3, [5], 1), [3])

    def test_behind_the_last_number_the_first_comes_again(self):
        # able: [0, 1, 2, 3, 4], [0, 3, 4], [1, 3, 4], [1]
        self.assertEqual(drawn((0, 1, 0, 1, 0), 2, [1, 0], 4), [1, 0, 3, 1])
        self.assertEqual(drawn((0, 1, 0, 1, 0), 2, [1, 0, 2], 4), [1, 0, 4, 1])
        for ring, many in (((0, 1, 0, 2), 3), ((0, 11) * 6, 12), ((1, 0, 1, 0, 1), 2)):
            for numbers in NUMBERS[1:]:
                with self.subTest(ring=ring, numbers=numbers):
                    told = drawn(ring, many, numbers, 60)
                    self.assertEqual(drawn(ring, many, numbers * 2, 60), told)
                    self.assertEqual(drawn(ring, many, (numbers * 60)[:60], 60), told)

    def test_no_numbers_are_as_the_number_0_alone(self):
        for ring, many in small_rings():
            self.assertEqual(drawn(ring, many, [], 12), drawn(ring, many, [0], 12))

    def test_as_many_steps_as_told(self):
        for ring, many in (((0, 0), 2), ((0, 1), 100), ((0, 1) * 6, 2), ((99, 0) * 6, 100)):
            for numbers in NUMBERS:
                longest = drawn(ring, many, numbers, 100)
                self.assertEqual(len(longest), 100)
                for steps in (0, 1, 2, 3, 50, 99):
                    with self.subTest(ring=ring, steps=steps):
                        self.assertEqual(drawn(ring, many, numbers, steps), longest[:steps])

    def test_somewhat_more_steps_raise_no_error(self):
        drawn((0, 1, 0), 3, [1, 2], 101)
        drawn((0, 1, 0), 3, [], 130)

    def test_by_the_words_of_the_document(self):
        for ring, many in list(small_rings()) + list(LONG_RINGS):
            for numbers in NUMBERS:
                right = [machine for machine, _ in itertools.islice(drawn_steps(ring, many, numbers), 15)]
                self.assertEqual(drawn(ring, many, numbers, 15), right, (ring, many, numbers))

    def test_many_may_be_less_than_the_machines(self):
        for many in (2, 3, 11):
            ring = (0, 1) * 6
            right = [machine for machine, _ in itertools.islice(drawn_steps(ring, many, [7, 2]), 100)]
            self.assertEqual(drawn(ring, many, [7, 2], 100), right)

    def test_what_is_drawn_can_be_gone(self):
        for ring, many in LONG_RINGS:
            for numbers in NUMBERS:
                self.assertEqual(len(gone(ring, many, drawn(ring, many, numbers, 100))), 101)

    def test_a_list_of_whole_numbers_is_told(self):
        for steps in (0, 3):
            told = drawn((0, 1, 0, 2), 3, [1, 5], steps)
            self.assertIs(type(told), list)
            self.assertEqual([type(machine) for machine in told], [int] * steps)


class CountedTest(RefusalTest):
    """Point [7]."""

    def test_how_often_each_machine_steps(self):
        self.assertEqual(counted([0, 1, 0, 2, 0], 3), [3, 1, 1])
        self.assertEqual(counted([0, 1, 0, 2, 0], 4), [3, 1, 1, 0])
        self.assertEqual(counted([1, 0, 1], 2), [1, 2])
        self.assertEqual(counted([11, 0, 11, 10], 12), [1] + [0] * 9 + [1, 2])

    def test_an_order_of_none(self):
        for machines in range(2, 13):
            self.assertEqual(counted([], machines), [0] * machines)

    def test_an_order_that_no_ring_lets_be_gone(self):
        self.assertEqual(counted([2, 2, 2, 1, 1], 3), [0, 2, 3])
        self.assertEqual(counted([1] * 1000, 2), [0, 1000])

    def test_each_machine_has_its_place(self):
        for machines in range(2, 13):
            order = [machine for machine in range(machines) for _ in range(machine + 1)]
            self.assertEqual(counted(order, machines), list(range(1, machines + 1)))
            self.assertEqual(counted(order[::-1], machines), list(range(1, machines + 1)))

    def test_a_wrong_number_of_machines_is_refused(self):
        for machines in (1, 0, -1, -2, -12, 13, 14, 100, FAR, -FAR):
            for order in ([], [0], [0, 0, 0], [12]):
                with self.subTest(machines=machines.bit_length(), order=order):
                    self.refused(NoRing, counted, order, machines)

    def test_a_machine_that_is_none_of_them_is_refused(self):
        for machines in (2, 3, 12):
            for wrong in (-1, -2, -machines, -machines - 1, -FAR, machines, machines + 1, 100, FAR):
                for order in ([wrong], [wrong, 0, 1], [0, wrong, 1], [0, 1, 0, wrong], [wrong, wrong]):
                    with self.subTest(machines=machines, wrong=wrong.bit_length(), steps=len(order)):
                        self.refused(NoMachine, counted, order, machines)

    def test_the_number_of_machines_is_looked_at_first(self):
        for machines in (1, 0, -1, 13, FAR):
            for wrong in (-1, 1, 13, 100, FAR):
                for order in ([wrong], [wrong, 0], [0, wrong, 0], [0, wrong]):
                    with self.subTest(machines=machines.bit_length(), wrong=wrong.bit_length()):
                        self.refused(NoRing, counted, order, machines)

    def test_none_but_0_steps_more_than_once_more_often_than_the_one_before(self):
        for ring, many, order in small_orders():
            self.check_counts(order, len(ring))
        for ring, many in LONG_RINGS:
            for numbers in NUMBERS:
                self.check_counts(drawn(ring, many, numbers, 100), len(ring))

    def check_counts(self, order, machines):
        counts = counted(order, machines)
        self.assertEqual(counts, [order.count(machine) for machine in range(machines)])
        for before, count in zip(counts, counts[1:]):
            self.assertLessEqual(count, before + 1)

    def test_a_list_of_whole_numbers_is_told(self):
        told = counted([0, 1, 0], 3)
        self.assertIs(type(told), list)
        self.assertEqual([type(count) for count in told], [int, int, int])


class TracedTest(RefusalTest):
    """Points [8] and [9]."""

    def test_an_order_of_none_leaves_each_its_own_beginning(self):
        for machines in range(2, 13):
            for many in (2, 100):
                self.assertEqual(traced((1,) * machines, many, []), list(range(machines)))

    def test_a_machine_takes_what_the_one_before_it_has(self):
        self.assertEqual(traced((0, 1, 2), 3, [1]), [0, 0, 2])
        self.assertEqual(traced((0, 1, 2), 3, [2]), [0, 1, 1])
        self.assertEqual(traced((0, 1, 2), 3, [2, 1]), [0, 0, 1])
        self.assertEqual(traced((0, 1, 2), 3, [1, 2]), [0, 0, 0])

    def test_the_steps_of_machine_0_are_counted_from_the_number_of_machines_on(self):
        self.assertEqual(traced((0, 0), 2, [0]), [2, 1])
        self.assertEqual(traced((0, 0), 2, [0, 1]), [2, 2])
        self.assertEqual(traced((0, 0), 2, [0, 1, 0]), [3, 2])
        self.assertEqual(traced((0, 0), 2, [0, 1, 0, 1, 0]), [4, 3])
        self.assertEqual(traced((0, 0, 0), 3, [0]), [3, 1, 2])
        self.assertEqual(traced((0, 0, 0), 3, [0, 1, 2, 0]), [4, 3, 3])
        self.assertEqual(traced((1, 0, 1), 3, [0, 1, 2]), [3, 3, 3])
        self.assertEqual(traced((1, 0, 1), 3, [1, 0]), [3, 0, 2])
        self.assertEqual(traced((1, 0, 1), 3, [1, 0, 1]), [3, 3, 2])
        self.assertEqual(traced((1, 0, 1), 3, [2, 1, 2, 0]), [3, 0, 0])
        self.assertEqual(traced((0,) * 12, 2, [0]), [12] + list(range(1, 12)))

    def test_a_long_order(self):
        order = list(range(12)) * 200
        self.assertEqual(traced((0,) * 12, 100, order), [211] * 12)
        self.assertEqual(traced((0,) * 12, 100, order + [0, 1]), [212, 212] + [211] * 10)

    def test_by_the_words_of_the_document(self):
        for ring, many, order in small_orders():
            self.check_sources(ring, many, order)
        for ring, many in LONG_RINGS:
            for numbers in NUMBERS:
                order = drawn(ring, many, numbers, 100)
                for steps in (1, 2, 5, 12, 13, 30, 99, 100):
                    self.check_sources(ring, many, order[:steps])

    def check_sources(self, ring, many, order):
        told = traced(ring, many, order)
        self.assertEqual(told, self.sources(len(ring), order), (ring, many, order))
        self.check_numbers(ring, many, order, told)
        self.check_later_ahead(len(ring), told)

    def sources(self, machines, order):
        """Follow each number back from the end of the order to where it came from."""
        found = []
        for machine in range(machines):
            at = len(order)
            while True:
                while at > 0 and order[at - 1] != machine:
                    at -= 1
                if at == 0:
                    found.append(machine)
                    break
                if machine == 0:
                    found.append(machines + order[:at].count(0) - 1)
                    break
                machine -= 1
                at -= 1
        return found

    def check_numbers(self, ring, many, order, told):
        """The number that was there is the one that is held at the end."""
        end = gone(ring, many, order)[-1]
        for number, source in zip(end, told):
            if source < len(ring):
                self.assertEqual(number, ring[source])
            else:
                self.assertEqual(number, (ring[0] + source - len(ring) + 1) % many)

    def check_later_ahead(self, machines, told):
        """Point [9]: along the ring the later steps of machine 0, the earlier, then the beginnings, rising."""
        steps = [source for source in told if source >= machines]
        beginnings = [source for source in told if source < machines]
        self.assertEqual(told, sorted(steps, reverse=True) + sorted(beginnings))

    def test_a_step_that_may_not_be_is_refused(self):
        for place, order in (
            ("first", [1]),
            ("first", [2, 0, 1]),
            ("middle", [0, 2, 1]),
            ("middle", [0, 0, 1, 2]),
            ("last", [0, 1, 0]),
            ("last", [0, 1, 2, 0, 2]),
        ):
            with self.subTest(place=place, order=order):
                self.refused(NotNow, traced, (0, 0, 0), 3, order)

    def test_a_step_of_no_machine_is_refused(self):
        # Of the ring that differs everywhere the last machine may step, so
        # that -1 would go through if it were read as an index.
        for ring in ((0, 0), (0, 1), (0, 0, 0), (1, 0, 1), (0,) * 12, (0, 1) * 6):
            machines = len(ring)
            good = drawn(ring, 12, [], 4)
            for wrong in (-1, -2, -machines, -machines - 1, -FAR, machines, machines + 1, 100, FAR):
                for order in ([wrong], [wrong] + good, good[:2] + [wrong] + good[2:], good + [wrong]):
                    with self.subTest(ring=ring, wrong=wrong.bit_length(), steps=len(order)):
                        self.refused(NoMachine, traced, ring, 12, order)

    def test_the_first_step_that_cannot_be_tells_the_refusal(self):
        self.refused(NotNow, traced, (0, 0, 0), 3, [1, 3])
        self.refused(NotNow, traced, (0, 0, 0), 3, [0, 0, -1])
        self.refused(NoMachine, traced, (0, 0, 0), 3, [3, 1])
        self.refused(NoMachine, traced, (0, 0, 0), 3, [0, -1, 0])

    def test_every_step_of_every_small_ring_is_refused_as_by_gone(self):
        for ring, many in small_rings():
            for machine in range(len(ring)):
                if machine not in may_step(ring):
                    self.refused(NotNow, traced, ring, many, [machine])
                    self.refused(NotNow, gone, ring, many, [machine])
                else:
                    traced(ring, many, [machine])
                    self.assertEqual(gone(ring, many, [machine])[-1], behind(ring, many, machine))

    def test_a_list_of_whole_numbers_is_told(self):
        for order in ([], [0, 1]):
            told = traced((0, 0, 0), 3, order)
            self.assertIs(type(told), list)
            self.assertEqual([type(source) for source in told], [int, int, int])


class InterfaceTest(unittest.TestCase):
    """The section healring/orders.py."""

    def test_each_function_is_defined_here_with_the_arguments_it_lists(self):
        for name, arguments in (
            ("drawn", ["ring", "many", "numbers", "steps"]),
            ("counted", ["order", "machines"]),
            ("traced", ["ring", "many", "order"]),
        ):
            with self.subTest(name=name):
                function = getattr(orders, name)
                self.assertEqual(function.__module__, "healring.orders")
                self.assertEqual(list(inspect.signature(function).parameters), arguments)

    def test_the_arguments_can_be_handed_in_by_name(self):
        self.assertEqual(drawn(steps=1, numbers=[1], many=2, ring=(0, 0)), [0])
        self.assertEqual(counted(machines=2, order=[0]), [1, 0])
        self.assertEqual(traced(order=[0], many=2, ring=(0, 0)), [2, 1])


if __name__ == "__main__":
    unittest.main()
