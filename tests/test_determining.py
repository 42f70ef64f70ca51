"""A net of which the machine becomes large is determined in another way, with the same answer."""

import random
import unittest

from firsthand.determining import bits_of, determined, explored, spared_by, steps_of, useful_net
from firsthand.hands import Hand
from firsthand.handsets import exemplars
from firsthand.machines import least_machine, reached_from
from firsthand.setmaking import lengths
from tests.brute import all_texts
from tests.test_handsets import some_row


def random_net(rand):
    count = rand.randint(1, 8)
    arcs = []
    for _ in range(count):
        arcs.append([(rand.choice((0, 1, None)), rand.randrange(count)) for _ in range(rand.randint(0, 4))])
    return [rand.random() < 0.3 for _ in range(count)], arcs


class DeterminingTest(unittest.TestCase):
    def test_spared_nodes_change_nothing(self):
        rand = random.Random(7)
        fewer = 0
        for _ in range(400):
            ends, arcs = useful_net(random_net(rand))
            silent = [[target for label, target in row if label is None] for row in arcs]
            closed = [bits_of(list(reached_from([node], silent))) for node in range(len(arcs))]
            steps = steps_of(arcs, closed)
            machines = []
            for spared in (None, spared_by(ends, steps)):
                order, rows = explored(closed[0], steps, spared, None)
                stops = bits_of([node for node in range(len(ends)) if ends[node]])
                machines.append(([held & stops != 0 for held in order], rows))
            self.assertEqual(least_machine(machines[0]), least_machine(machines[1]))
            fewer += len(machines[1][0]) < len(machines[0][0])
        self.assertGreater(fewer, 20)

    def test_bound(self):
        steps = [{0: 2, 1: 1}, {0: 4}, {0: 1}]
        self.assertIsNone(explored(1, steps, None, 2))
        self.assertEqual(len(explored(1, steps, None, 3)[0]), 3)

    def test_large_answer(self):
        faults = [("omit", "bc", 3), ("merge", "da", 5), ("double", "a", 2), ("leap", "b", 2), ("mistake", "d", "a", 5)]
        hand = Hand.of_faults("abcd", faults, limit=2)
        texts = lengths("abcd", 2, 6)
        read = exemplars(hand, texts)
        for text in all_texts("abcd", 4):
            self.assertEqual(text in read, some_row(hand, texts, text, 1))
        for text in ("bcacbcab" * 2, "dadadadada", "bbbcccbbbccc", "abcdabcdabcd"):
            self.assertEqual(text in read, some_row(hand, texts, text, 1))

    def test_second_way_is_taken(self):
        # The texts in which the twelfth letter from the end is the letter 0.
        arcs = [[(0, 0), (1, 0), (0, 1)]] + [[(0, at + 1), (1, at + 1)] for at in range(1, 12)] + [[]]
        machine = determined(([at == 12 for at in range(13)], arcs))
        self.assertEqual(len(least_machine(machine)[0]), 2 ** 12)
