import unittest

from helpers import Case, values
from nearestsays.places import Place
from nearestsays.plans import Plan
from nearestsays.rings import is_ring, ring
from small import forty_with_a_ring, few_steps, orders_of, ringed, rings_of, some_exchanges, wide
from test_exchange import of_kinds, plain, two
from test_plans import chain


def triple():
    """Three rows in a ring of three sentences, one in each column, and two of them in a ring of two."""
    return wide("rwz", {"/p": "r", "/p/q": "rw", "/p/q/s": "w"}, {"/p": "z", "/p/q/s": "zr"})


class Rings(Case):
    def check(self, exchange, found):
        """A ring, sentence by sentence."""
        self.assertIs(type(found), tuple)
        self.assertGreaterEqual(len(found), 2)
        for at, sentence in enumerate(found):
            self.assertIn(sentence, exchange.sentences)
            self.assertEqual(sentence[1], found[(at + 1) % len(found)][0])
        self.assertEqual(len({sentence[0] for sentence in found}), len(found))

    def test_the_example(self):
        exchange = ringed()
        self.check(exchange, ring(exchange))
        self.same(sorted(ring(exchange)), [(0, 1, "r", "old/old"), (1, 0, "w", "new/new")])
        for place in ("/p", "/p/q"):
            self.same(ring(exchange.divide(place)), None)

    def test_none_where_there_are_no_sentences(self):
        for exchange in (plain({}, {}), plain({"/a": "x"}, {"/b": "y"}), of_kinds({"/p": "kept", "/p/q": "new"})):
            self.same(ring(exchange), None)

    def test_none_exactly_if_there_is_an_order(self):
        found = 0
        for columns, seed in (("rw", 60), ("rwz", 61), ("r", 62)):
            for exchange in few_steps(seed, 250, 6, columns, 5):
                rings = ring(exchange)
                self.assertIs(rings is None, bool(orders_of(exchange)))
                if rings is not None:
                    self.check(exchange, rings)
                    found += 1
                    self.assertIn(rings, rings_of(exchange))
        self.assertGreater(found, 20)

    def test_the_same_again_for_an_equal_exchange(self):
        for columns in ("rw", "rwz"):
            for one, other in zip(some_exchanges(63, 80, columns, 7), some_exchanges(63, 80, columns, 7)):
                self.assertEqual(one, other)
                self.same(ring(one), ring(other))
                self.same(ring(one), ring(exchange=one))

    def test_steps_behind_a_ring_are_not_in_it(self):
        exchange = wide("rw", {"/a": "r", "/p": "r", "/p/q": "r", "/p/q/s": "r", "/p/q/s/t": "r"}, {"/p": "w", "/p/q": "w"})
        self.same(exchange.sentences, ((1, 2, "r", "old/old"), (2, 1, "w", "new/new"), (2, 3, "r", "old/old"), (3, 4, "r", "old/old")))
        self.check(exchange, ring(exchange))
        self.same(sorted(ring(exchange)), sorted(exchange.sentences[:2]))

    def test_none_with_one_column(self):
        for exchange in some_exchanges(64, 200, "r", 12):
            self.same(ring(exchange), None)

    def test_none_where_all_places_of_several_columns_are_divided(self):
        rings = 0
        for exchange in some_exchanges(65, 300, "rwz", 8):
            rings += ring(exchange) is not None
            places = [step.place for step in exchange.steps if len(step.columns) > 1]
            self.same(ring(exchange.divide(*places)), None)
        self.assertGreater(rings, 30)

    def test_forty_rows(self):
        exchange = forty_with_a_ring()
        self.same(len(exchange), 40)
        self.check(exchange, ring(exchange))


class IsRing(Case):
    def test_the_example(self):
        exchange = ringed()
        self.assertIs(is_ring(exchange, exchange.sentences), True)
        self.assertIs(is_ring(exchange, exchange.sentences[::-1]), True)
        self.assertIs(is_ring(thing=ring(exchange), exchange=exchange), True)

    def test_all_rings_and_nothing_else_of_sentences(self):
        found = 0
        for exchange in [triple(), *some_exchanges(66, 300, "rwz", 6)]:
            rings = rings_of(exchange)
            for row in rings:
                self.assertIs(is_ring(exchange, row), True)
                found += 1
            for one in exchange.sentences:
                self.assertIs(is_ring(exchange, (one,)), False)
                for other in exchange.sentences:
                    self.assertIs(is_ring(exchange, (one, other)), (one, other) in rings)
        self.assertGreater(found, 50)

    def test_turned_round(self):
        exchange = triple()
        self.same(sorted(len(row) for row in rings_of(exchange)), [2, 2, 3, 3, 3])
        found = [row for row in rings_of(exchange) if len(row) == 3]
        for row in found:
            for at in range(3):
                self.assertIs(is_ring(exchange, row[at:] + row[:at]), True)
            self.assertIs(is_ring(exchange, row[::-1]), row[::-1] in rings_of(exchange))

    def test_cut_short_and_passed_twice(self):
        for exchange in (ringed(), triple()):
            for row in rings_of(exchange):
                for wrong in (row[1:], row[:-1], row + row, row + row[:1], (), row[:1]):
                    self.assertIs(is_ring(exchange, wrong), wrong in rings_of(exchange))
                self.assertIs(is_ring(exchange, row + row), False)

    def test_put_together(self):
        exchange = triple()
        for row in rings_of(exchange):
            for other in rings_of(exchange):
                self.assertIs(is_ring(exchange, row + other), False)

    def test_two_rings_side_by_side_are_none(self):
        exchange = wide("rw", {"/a": "r", "/a/b": "r", "/p": "r", "/p/q": "r"}, {"/a": "w", "/a/b": "w", "/p": "w", "/p/q": "w"})
        rings = rings_of(exchange)
        self.same(len(rings), 4)
        self.assertIs(is_ring(exchange, exchange.sentences), False)
        self.assertIs(is_ring(exchange, exchange.sentences[:2]), True)

    def test_a_list_and_lists_in_it(self):
        row = ring(ringed())
        for wrong in (list(row), [list(part) for part in row], tuple(list(part) for part in row), (row[0], list(row[1])), {row: row}, (row,), (row, row)):
            self.assertIs(is_ring(ringed(), wrong), False)

    def test_one_sentence_otherwise(self):
        exchange = ringed()
        row = ring(exchange)
        for at in range(2):
            ahead, behind, column, word = row[at]
            for other in [(behind, ahead, column, word), (ahead, behind, "z", word), (ahead, behind, column, "new/old"), (ahead, 2, column, word),
                          (bool(ahead), behind, column, word), (ahead, bool(behind), column, word), (float(ahead), behind, column, word),
                          (ahead, behind, column), (ahead, behind, column, word, word), (str(ahead), behind, column, word), (), None, "r",
                          (ahead, behind, Place("r"), word), [ahead, behind, column, word], Plan(exchange)]:
                changed = (*row[:at], other, *row[at + 1:])
                self.assertIs(is_ring(exchange, changed), False)

    def test_a_ring_of_another_exchange(self):
        row = ring(ringed())
        self.assertIs(is_ring(chain(), row), False)
        self.assertIs(is_ring(ringed().divide("/p"), row), False)
        self.assertIs(is_ring(two({"/p": {"r": "1"}, "/p/q": {"r": "2"}}, {"/p": {"w": "3"}, "/p/q": {"w": "4"}}), row), True)

    def test_sentences_that_lead_on_but_not_back(self):
        exchange = of_kinds({"/a": "old", "/a/b": "old", "/a/b/c": "old"})
        self.same(exchange.sentences, ((0, 1, "r", "old/old"), (1, 2, "r", "old/old")))
        self.assertIs(is_ring(exchange, exchange.sentences), False)

    def test_values_of_all_kinds(self):
        for exchange in (ringed(), chain(), plain({}, {})):
            for value in [*values(exchange), (None, None), ((), ()), (0, 1), ("ab", "cd"), ((0, 1), (1, 0))]:
                self.assertIs(is_ring(exchange, value), False)


if __name__ == "__main__":
    unittest.main()
