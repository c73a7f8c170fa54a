"""Point [1]: what is handed in stays as it was, and what is told is the asker's own."""

import unittest

from common import RefusalTest
from healring.errors import NoMachine, NoNumbers, NoRing, NotHealed, NotNow
from healring.healing import healed, healing, most, turns
from healring.orders import counted, drawn, traced
from healring.rings import able, gone, stepped
from healring.small import never, worst

# Each question that is answered by a list, and a question whose list is empty
# or as it was handed in, where there is one.
LISTS = (
    ("able", lambda: able((1, 0, 1), 2)),
    ("gone", lambda: gone((0, 0, 0), 3, [0, 1])),
    ("gone, none", lambda: gone((0, 0, 0), 3, [])),
    ("drawn", lambda: drawn((0, 2, 0), 3, [1, 2], 5)),
    ("drawn, no steps", lambda: drawn((0, 2, 0), 3, [1, 2], 0)),
    ("drawn, no numbers", lambda: drawn((0, 2, 0), 3, [], 5)),
    ("counted", lambda: counted([0, 1, 0], 3)),
    ("counted, none", lambda: counted([], 3)),
    ("traced", lambda: traced((0, 0, 0), 3, [0, 1])),
    ("traced, none", lambda: traced((0, 0, 0), 3, [])),
    ("healing", lambda: healing((0, 2, 0), 3, [0, 1])),
    ("healing, healed already", lambda: healing((0, 0, 0), 3, [0, 1])),
    ("turns", lambda: turns((1, 0, 0), 2)),
    ("worst", lambda: worst(4, 4)[1]),
    ("worst, none", lambda: worst(2, 3)[1]),
    ("never", lambda: never(4, 2)[1]),
)

# Each question that is handed a list, as a call of that list, with a good one.
HANDED = (
    ("gone", lambda order: gone((0, 0, 0), 3, order), [0, 1, 2, 0]),
    ("drawn", lambda numbers: drawn((0, 2, 0), 3, numbers, 7), [2, 0, 9]),
    ("counted", lambda order: counted(order, 3), [0, 2, 1, 1]),
    ("traced", lambda order: traced((0, 0, 0), 3, order), [0, 1, 2, 0]),
    ("healing", lambda numbers: healing((0, 2, 0), 3, numbers), [0, 1, 5]),
)


class ToldTest(unittest.TestCase):
    def test_a_list_may_be_changed_by_the_asker(self):
        right = [(name, list(call())) for name, call in LISTS]
        for change in (
            lambda told: told.append(7),
            lambda told: told.insert(0, -1),
            lambda told: told.reverse(),
            lambda told: told.clear(),
            lambda told: told.extend([1, 2, 3]),
        ):
            for _, call in LISTS:
                change(call())
            self.assertEqual([(name, call()) for name, call in LISTS], right)

    def test_what_was_told_is_not_changed_by_what_is_asked_later(self):
        told = [(name, call()) for name, call in LISTS]
        kept = [(name, list(answer)) for name, answer in told]
        for _, call in LISTS:
            call().append(7)
        for name, call, good in HANDED:
            call(good)
        self.assertEqual(told, kept)

    def test_no_two_answers_are_one_list(self):
        for name, call in LISTS:
            with self.subTest(name=name):
                self.assertIsNot(call(), call())

    def test_no_answer_is_the_list_that_was_handed_in(self):
        for name, call, good in HANDED:
            for handed in (list(good), []):
                with self.subTest(name=name, handed=handed):
                    told = call(handed)
                    self.assertIsNot(told, handed)
                    kept = list(told)
                    handed.append(0)
                    self.assertEqual(told, kept)

    def test_a_ring_and_a_pair_are_tuples(self):
        self.assertIs(type(stepped((0, 0), 2, 0)), tuple)
        self.assertEqual({type(ring) for ring in gone((0, 0), 2, [0, 1])}, {tuple})
        for pair in (worst(3, 3), never(4, 2)):
            self.assertIs(type(pair), tuple)
            self.assertIs(type(pair[0]), tuple)

    def test_a_number_and_a_truth_are_told_the_same_again(self):
        for _ in range(2):
            self.assertEqual(most(5), 30)
            self.assertIs(healed((0, 0, 0), 2), True)
            self.assertIs(healed((0, 1, 0), 2), False)


class HandedInTest(RefusalTest):
    def test_a_list_stays_as_it_was(self):
        for name, call, good in HANDED:
            for kept in (good, good[:1], []):
                with self.subTest(name=name, kept=kept):
                    handed = list(kept)
                    told = call(handed)
                    self.assertEqual(handed, kept)
                    told.append(7)
                    told.reverse()
                    self.assertEqual(handed, kept)

    def test_a_list_that_was_refused_stays_as_it_was(self):
        for kind, call, kept in (
            (NotNow, lambda order: gone((0, 0, 0), 3, order), [0, 2, 1]),
            (NoMachine, lambda order: gone((0, 0, 0), 3, order), [0, 1, 3]),
            (NotNow, lambda order: traced((0, 0, 0), 3, order), [0, 2, 1]),
            (NoMachine, lambda order: traced((0, 0, 0), 3, order), [0, 1, -1]),
            (NoMachine, lambda order: counted(order, 3), [0, 3, 1]),
            (NoRing, lambda order: counted(order, 13), [0, 1]),
            (NoNumbers, lambda numbers: drawn((0, 0), 1, numbers, 3), [2, 1]),
            (NoRing, lambda numbers: drawn((0, 2), 2, numbers, 3), [2, 1]),
            (NoNumbers, lambda numbers: healing((0, 1, 0), 2, numbers), [2, 1]),
            (NoRing, lambda numbers: healing((0, 2, 0), 2, numbers), [2, 1]),
        ):
            handed = list(kept)
            self.refused(kind, call, handed)
            self.assertEqual(handed, kept)

    def test_a_ring_stays_as_it_was(self):
        ring = (0, 2, 0)
        able(ring, 3)
        stepped(ring, 3, 0)
        gone(ring, 3, [0, 1])
        drawn(ring, 3, [1, 2], 9)
        traced(ring, 3, [0, 1])
        healed(ring, 3)
        healing(ring, 3, [1, 2])
        self.refused(NotHealed, turns, ring, 3)
        self.assertEqual(ring, (0, 2, 0))


if __name__ == "__main__":
    unittest.main()
