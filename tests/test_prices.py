"""Points 71 to 73."""

import random
import unittest

from firsthand.claims import Claim
from firsthand.families import Family
from firsthand.hands import Hand
from firsthand.histories import cost_of
from firsthand.prices import cheapest_history, is_price_table, least_cost, prices
from firsthand.setmaking import exactly, lengths, nothing, torn
from firsthand.tracks import is_full, start_track, track_moves
from firsthand.walks import histories, reachable
from tests.brute import lists_of, only_tuples
from tests.worlds import as_history, beginnings, looked_at, random_worlds, track_told, tracks_told

HAND = Hand.of_faults("ab", [("omit", "b", 1), ("double", "a", 2)])
FAMILY = Family("ab").copied("x", "first", HAND).found("x", exactly("ab", ["aa"]))
EMPTY = FAMILY.found("first", nothing("ab"))
# At least two places, and "a" at the first one, which only "b" or nothing can be copied from.
DEAR = Family("ab").copied("x", "first", Hand("ab", [(0, "a", "b", 4, 1), (0, "a", "", 3, 2), (1, "a", "b", 5, 1), (1, "b", "", 0, 2)], [1]))
DEAR = DEAR.found("first", lengths("ab", 2, 2))


def dear(state, kept):
    return (((state,), (kept, None)), ())


def cost(was):
    return sum(was["costs"])


class PricesTest(unittest.TestCase):
    def test_table(self):
        tracks = reachable(FAMILY)
        self.assertEqual(prices(FAMILY), tuple((track, 0) for track in tracks))
        table = ((dear(0, 0), 9), (dear(2, 1), None), (dear(1, 1), 5), (dear(1, 2), 0), (dear(2, 2), None))
        self.assertEqual(prices(DEAR), table)
        self.assertTrue(only_tuples(prices(DEAR)))
        self.assertEqual(prices(EMPTY), ())
        self.assertEqual(least_cost(DEAR), 9)

    def test_claim(self):
        claim = Claim.reads("x", 0, "aa") | ~Claim.costs(3)
        found = prices(FAMILY, supposed=claim)
        self.assertEqual([track for track, _ in found], list(reachable(FAMILY, supposed=claim)))
        self.assertEqual(found[0], ((((0,), (None, 0)), (0, 0)), 2))
        known = dict(found)
        self.assertEqual(known[((0,), (None, 1)), (2, 0)], 4)
        self.assertEqual(known[((0,), (None, 2)), (1, 2)], 0)

    def test_words_of_the_document(self):
        """The first text has at most three letters, so all histories are seen."""
        seen = set()
        for family, _, supposed in random_worlds(71, 200):
            family = family.found("first", lengths(family.alphabet, 0, 3))
            found = looked_at(family, 3, supposed)
            tracks = {as_history(was): track_told(family, was, supposed) for was in beginnings(family, 3)}
            best = {}
            for was in found:
                for place in range(len(was["first"]) + 1):
                    track = tracks[was["first"][:place], was["columns"][:place]]
                    rest = sum(was["costs"][place:])
                    best[track] = min(rest, best.get(track, rest))
            table = prices(family, supposed=supposed)
            self.assertEqual(table, tuple((track, best.get(track)) for track in tracks_told(family, supposed, 3)))
            seen.update(price for _, price in table)
            costs = [cost(was) for was in found]
            least = min(costs) if costs else None
            self.assertEqual(least_cost(family, supposed=supposed), least)
            cheapest = [as_history(was) for was in found if cost(was) == least]
            self.assertEqual(cheapest_history(family, supposed=supposed), cheapest[0] if cheapest else None)
        self.assertLessEqual({None, 0, 1, 2}, seen, seen)

    def test_infinitely_many_histories(self):
        for family, _, supposed in random_worlds(710, 40, places=2, most=400, atoms=2):
            table = dict(prices(family, supposed=supposed))
            if len(table) > 300:
                continue
            arcs = {track: [(paid, after) for letter in family.alphabet
                            for _, paid, after in track_moves(family, supposed, track, letter)] for track in table}
            for track, price in table.items():
                rests = [paid + table[after] for paid, after in arcs[track] if table[after] is not None]
                rests += [0] if is_full(family, supposed, track) else []
                self.assertEqual(price, min(rests) if rests else None)
            history = cheapest_history(family, supposed=supposed)
            least = table.get(start_track(family, supposed))
            self.assertEqual(None if history is None else cost_of(family, history), least)


class CheapestTest(unittest.TestCase):
    def test_least_cost_then_fewest_places_then_order(self):
        self.assertEqual(cheapest_history(FAMILY), ("aa", (((("a", 0),),),) * 2))
        rules = [(0, "a", "b", 1, 0), (0, "b", "b", 1, 0), (0, "b", "bb", 2, 0), (0, "a", "", 0, 0), (0, "b", "", 0, 0)]
        family = Family("ab").copied("x", "first", Hand("ab", rules, [0])).found("x", exactly("ab", ["bb"]))
        self.assertEqual(least_cost(family), 2)
        self.assertEqual(cheapest_history(family), ("b", (((("bb", 2),),),)))
        self.assertEqual(cheapest_history(family, supposed=Claim.reads("x", 0, "b")), ("aa", (((("b", 1),),),) * 2))
        two = ("ab", (((("", 0),),), ((("bb", 2),),)))
        self.assertEqual(cheapest_history(family, supposed=~Claim.reads("x", 0, "bb")), two)
        self.assertEqual(cheapest_history(family, supposed=Claim.reads("x", 0, "") & ~Claim.reads("x", 1, "bb"))[0], "aab")

    def test_a_dear_history_with_fewer_places_is_not_cheapest(self):
        history = cheapest_history(FAMILY)
        self.assertEqual(len(history[0]), 2)
        self.assertEqual([len(first) for first, _ in histories(FAMILY, places=1)], [1])

    def test_least_column_among_equal_costs(self):
        rules = [(0, "a", "b", 1, 0), (0, "a", "ab", 1, 0), (0, "a", "a", 1, 0), (0, "b", "", 1, 0)]
        family = Family("ab").copied("x", "first", Hand("ab", rules, [0])).found("first", lengths("ab", 1, 1))
        self.assertEqual(cheapest_history(family), ("a", (((("a", 1),),),)))
        self.assertEqual(cheapest_history(family.found("x", torn("ab", "*b"))), ("a", (((("b", 1),),),)))
        self.assertEqual(cheapest_history(family.found("x", exactly("ab", [""]))), ("b", (((("", 1),),),)))

    def test_none_at_all(self):
        for family in (EMPTY, FAMILY.found("first", exactly("ab", ["b"]))):
            self.assertIsNone(least_cost(family))
            self.assertIsNone(cheapest_history(family))
        claim = Claim.costs(1)
        self.assertIsNone(cheapest_history(FAMILY, supposed=claim & ~claim))
        self.assertIsNone(least_cost(FAMILY, supposed=claim & ~claim))

    def test_no_places(self):
        self.assertEqual((least_cost(Family("ab")), cheapest_history(Family("ab"))), (0, ("", ())))


class PriceTableTest(unittest.TestCase):
    def setUp(self):
        self.table = prices(DEAR)

    def changed(self, track, price):
        return [(other, price if other == track else old) for other, old in self.table]

    def test_told_tables(self):
        for table in (self.table, lists_of(self.table), self.table[::-1]):
            for bound in range(10):
                self.assertIs(is_price_table(DEAR, table, bound), True)
            self.assertIs(is_price_table(DEAR, table, 10), False)
            self.assertIs(is_price_table(DEAR, table, None), False)

    def test_track_twice(self):
        for pair in self.table:
            self.assertIs(is_price_table(DEAR, self.table + (pair,), 0), False)
        self.assertIs(is_price_table(DEAR, self.table + ((dear(1, 1), 4),), 0), False)

    def test_track_missing(self):
        for pair in self.table:
            self.assertIs(is_price_table(DEAR, [other for other in self.table if other != pair], 0), False)
        self.assertIs(is_price_table(DEAR, (), 0), False)

    def test_prices_too_high(self):
        for track, price in self.table:
            if price is not None:
                self.assertIs(is_price_table(DEAR, self.changed(track, price + 1), 0), False)
                self.assertIs(is_price_table(DEAR, self.changed(track, None), 0), False)

    def test_lower_prices(self):
        self.assertIs(is_price_table(DEAR, self.changed(dear(0, 0), 7), 7), True)
        self.assertIs(is_price_table(DEAR, self.changed(dear(0, 0), 7), 8), False)
        # With a lower price of the track behind it, the price of the start is too high.
        self.assertIs(is_price_table(DEAR, self.changed(dear(1, 1), 4), 0), False)
        lower = [(track, {dear(1, 1): 4, dear(0, 0): 8}.get(track, price)) for track, price in self.table]
        self.assertIs(is_price_table(DEAR, lower, 8), True)
        # A number where no full track can be reached; the tracks before must not be dearer than it lets them.
        self.assertIs(is_price_table(DEAR, self.changed(dear(2, 2), 0), 0), False)
        worth = {dear(2, 2): 0, dear(2, 1): 0, dear(1, 1): 0, dear(0, 0): 3}
        self.assertIs(is_price_table(DEAR, [(track, worth.get(track, price)) for track, price in self.table], 3), True)

    def test_full_track_with_another_price(self):
        self.assertIs(is_price_table(DEAR, self.changed(dear(1, 2), 1), 0), False)
        family = FAMILY.found("x", exactly("ab", ["aa"]))
        table = prices(family)
        for price in (1, None):
            self.assertIs(is_price_table(family, table[:2] + ((table[2][0], price),), 0), False)

    def test_more_tracks_than_needed(self):
        self.assertIs(is_price_table(DEAR, self.table + ((dear(0, 1), 4), (dear(0, 2), None)), 9), True)
        self.assertIs(is_price_table(DEAR, self.table + ((dear(0, 1), 4),), 9), True)
        self.assertIs(is_price_table(DEAR, self.table[:-1] + ((dear(0, 1), 4),), 9), False)
        self.assertIs(is_price_table(DEAR, self.table + ((dear(0, 1), 5),), 9), False)
        self.assertIs(is_price_table(DEAR, self.table + ((dear(0, 1), None),), 9), False)
        self.assertIs(is_price_table(DEAR, self.table + ((dear(0, 2), None),), 9), True)

    def test_costs_none_and_zero(self):
        family = FAMILY.found("first", exactly("ab", ["b"]))
        table = prices(family)
        self.assertTrue(all(price is None for _, price in table))
        for bound in (None, 0, 1000):
            self.assertIs(is_price_table(family, table, bound), True)
        low = tuple((track, 3) for track, _ in table)
        self.assertEqual([is_price_table(family, low, bound) for bound in (0, 3, 4, None)], [True, True, False, False])
        self.assertEqual([is_price_table(FAMILY, prices(FAMILY), bound) for bound in (0, 1, None)], [True, False, False])

    def test_no_start_track(self):
        for bound in (None, 0, 7):
            self.assertIs(is_price_table(EMPTY, (), bound), True)

    def test_words_of_the_document(self):
        rand = random.Random(73)
        answers = set()
        for family, _, supposed in random_worlds(73, 80):
            table = prices(family, supposed=supposed)
            least = least_cost(family, supposed=supposed)
            self.assertIs(is_price_table(family, table, least, supposed=supposed), True)
            for _ in range(6 if table else 0):
                changed = list(table)
                at = rand.randrange(len(table))
                changed[at] = (table[at][0], rand.choice([None, 0, 1, 2, 3]))
                if rand.random() < 0.2:
                    del changed[rand.randrange(len(changed))]
                bound = rand.choice([None, 0, 1, 2])
                answer = bounds(family, changed, bound, supposed)
                self.assertIs(is_price_table(family, changed, bound, supposed=supposed), answer)
                answers.add((answer, bound is None))
        self.assertEqual(len(answers), 4)


def number(price):
    return float("inf") if price is None else price


def bounds(family, table, bound, supposed):
    """Point 73, word by word."""
    known = dict(table)
    start = start_track(family, supposed)
    if len(known) < len(table) or start is not None and (start not in known or number(known[start]) < number(bound)):
        return False
    for track, price in table:
        for letter in family.alphabet:
            for _, paid, after in track_moves(family, supposed, track, letter):
                if after not in known or number(price) > paid + number(known[after]):
                    return False
        if is_full(family, supposed, track) and price != 0:
            return False
    return True


if __name__ == "__main__":
    unittest.main()
