"""Steps, graphs, merged nets and sums, against slower ways to the same."""

import collections
import random
import unittest

from firsthand.claims import Claim
from firsthand.determining import nodes_before
from firsthand.families import Family
from firsthand.graphs import Graph
from firsthand.hands import Hand
from firsthand.nets import ROUNDS, like_nodes, merged_net, set_of_net
from firsthand.setasking import total_count
from firsthand.setmaking import exactly, torn
from firsthand.steps import Steps
from firsthand.sums import ring_numbers
from firsthand.tracks import start_track, track_moves
from firsthand.walks import reachable
from tests.brute import all_texts
from tests.worlds import continued, beginnings, random_worlds, track_told


class StepsTest(unittest.TestCase):
    def single(self, family, claim, was, label):
        """The steps of a beginning, from what happens at the next place."""
        firsts, counts = {}, collections.Counter()
        for after in continued(family, was):
            row = {name: after["blocks"][name][-1] for name in family.names}
            if label is None:
                shown = None
            elif label[0] == "block":
                shown = row[label[1]]
            elif label[0] == "slips":
                shown = after["slips"][label[1]] - was["slips"][label[1]]
            else:
                shown = int(row[label[1]] != row[label[2]])
            key = (track_told(family, after, claim), after["costs"][-1], shown)
            firsts.setdefault(key, (after["first"][-1], after["columns"][-1]))
            counts[key] += 1
        return [(*firsts[key], key[1], key[0], counts[key], key[2]) for key in firsts]

    def test_words_of_the_document(self):
        rand = random.Random(50)
        merged = 0
        for family, claim, supposed in random_worlds(500, 120):
            for label in (None, ("block", rand.choice(family.names)), ("slips", rand.choice(family.names)),
                          ("apart", rand.choice(family.names), rand.choice(family.names))):
                for claim in (claim, supposed):
                    steps = Steps(family, claim, label=label, by_cost=True)
                    for was in beginnings(family, 1)[:4]:
                        expected = self.single(family, claim, was, label)
                        self.assertEqual(steps.steps_from(track_told(family, was, claim)), expected)
                        merged += any(step[4] > 1 for step in expected)
                    plain = Steps(family, claim, label=label)
                    for was in beginnings(family, 1)[:4]:
                        found = plain.steps_from(track_told(family, was, claim))
                        counts = collections.Counter()
                        for _, _, _, after, count, shown in self.single(family, claim, was, label):
                            counts[after, shown] += count
                        self.assertEqual({(step[3], step[5]): step[4] for step in found}, dict(counts))
        self.assertGreater(merged, 20)

    def test_graph_finds_no_more_than_it_is_asked_for(self):
        hand = Hand.of_faults("ab", [("omit", "b", 1), ("double", "a", 2)])
        family = Family("ab").copied("x", "first", hand).found("x", torn("ab", "?" * 12))
        graph = Graph(family, None)
        graph.arcs_from(0)
        self.assertEqual(len(graph.tracks), 3)
        self.assertEqual(tuple(graph.complete().tracks), reachable(family))
        self.assertEqual(graph.tracks[0], start_track(family, None))
        first, columns = graph.history_to(2)
        self.assertIn(graph.tracks[2], [after for _, _, after in track_moves(family, None, graph.tracks[0], first)])
        self.assertEqual((first, columns), ("a", (((("aa", 2),),),)))

    def test_costs_count_where_a_claim_asks_for_them(self):
        rules = [(0, "a", "a", cost, 0) for cost in range(4)]
        family = Family("a").copied("x", "first", Hand("a", rules, [0]))
        self.assertEqual([step[4] for step in Steps(family, None).steps_from(start_track(family, None))], [4])
        claim = Claim.costs(1)
        found = Steps(family, claim).steps_from(start_track(family, claim))
        self.assertEqual([(step[3][1], step[4]) for step in found], [((0,), 1), ((1,), 1), ((2,), 2)])


def read_texts(ends, arcs, longest):
    """All texts with at most so many letters on ways from node 0 to an end."""
    found = set()
    seen = {("", 0)}
    work = [("", 0)]
    while work:
        text, node = work.pop()
        if ends[node]:
            found.add(text)
        for more, target in arcs[node]:
            after = (text + more, target)
            if len(after[0]) <= longest and after not in seen:
                seen.add(after)
                work.append(after)
    return found


class NetsTest(unittest.TestCase):
    def random_net(self, rand):
        count = rand.randint(1, 8)
        arcs = [[(rand.choice(["", "a", "b", "ab"]), rand.randrange(count)) for _ in range(rand.randint(0, 3))] for _ in range(count)]
        return [rand.random() < 0.4 for _ in range(count)], arcs

    def test_merged_net(self):
        rand = random.Random(12)
        fewer = 0
        for _ in range(300):
            ends, arcs = self.random_net(rand)
            stops, rows = merged_net((ends, arcs))
            texts = read_texts(ends, arcs, 4)
            self.assertEqual(read_texts(stops, rows, 4), texts)
            fewer += len(rows) < len(arcs)
            answer = set_of_net("ab", ends, arcs)
            self.assertEqual({text for text in all_texts("ab", 4) if text in answer}, texts)
        self.assertGreater(fewer, 50)

    def test_long_nets(self):
        count = ROUNDS + 5
        arcs = [[("a", at + 1)] for at in range(count)] + [[]]
        ends = [False] * count + [True]
        self.assertEqual(like_nodes(ends, arcs), list(range(count + 1)))
        self.assertEqual(set_of_net("a", ends, arcs), exactly("a", ["a" * count]))

    def test_net_that_is_left_as_it_is(self):
        count = ROUNDS + 5
        arcs = [[("a", at + 1), ("b", count)] for at in range(count)] + [[]]
        ends = [False] * count + [True]
        self.assertIsNone(like_nodes(ends, arcs))
        self.assertEqual(merged_net((ends, arcs)), (ends, arcs))
        texts = set_of_net("ab", ends, arcs)
        self.assertEqual([total_count(texts), "a" * count in texts, "aaab" in texts, "aaa" in texts], [count + 1, True, True, False])


class RingsTest(unittest.TestCase):
    def test_ring_numbers(self):
        rand = random.Random(78)
        for _ in range(300):
            count = rand.randint(1, 8)
            followers = [[rand.randrange(count) for _ in range(rand.randint(0, 2))] for _ in range(count)]
            reach = [{node} for node in range(count)]
            for _ in range(count):
                for node in range(count):
                    for after in followers[node]:
                        reach[node] |= reach[after]
            numbers = ring_numbers(followers, nodes_before([[(None, after) for after in row] for row in followers]))
            for one in range(count):
                for two in range(count):
                    self.assertIs(numbers[one] == numbers[two], two in reach[one] and one in reach[two])
                    if two in reach[one]:
                        self.assertLessEqual(numbers[one], numbers[two])


if __name__ == "__main__":
    unittest.main()
