import unittest
from itertools import permutations, product
from math import factorial

from helpers import Case, values
from nearestsays.counting import count
from nearestsays.errors import Ringed
from nearestsays.plans import Plan
from nearestsays.rings import is_ring, ring
from nearestsays.rounds import chain, rounds, shows_rounds
from small import few_steps, forty_with_a_ring, nested, ringed, some_exchanges, wide
from test_exchange import of_kinds, plain, two
from test_plans import chain as four


def pairs(exchange):
    return {sentence[:2] for sentence in exchange.sentences}


def chains(exchange):
    """All tuples in which each step and the next one are those of a sentence, the single steps too."""
    found, fresh = [], [(number,) for number in range(len(exchange))]
    while fresh:
        found += fresh
        fresh = [(*row, later) for row in fresh for ahead, later in sorted(pairs(exchange)) if ahead == row[-1]]
    return found


def longest_chains(exchange):
    found = chains(exchange)
    most = max(map(len, found), default=0)
    return sorted(row for row in found if len(row) == most) or [()]


def earliest(exchange, number):
    return max([earliest(exchange, ahead) + 1 for ahead, behind in pairs(exchange) if behind == number], default=0)


def numbers_of(exchange, row):
    return all(type(number) is int and 0 <= number < len(exchange) for number in row)


def truth(exchange, shown, way):
    """Whether these are safe rounds and a chain of as many steps, told in the tests' own way."""
    if type(shown) not in (list, tuple) or type(way) is not tuple:
        return False
    if not all(type(row) is tuple and row and numbers_of(exchange, row) for row in shown) or not numbers_of(exchange, way):
        return False
    if sorted(number for row in shown for number in row) != list(range(len(exchange))):
        return False
    spot = {number: at for at, row in enumerate(shown) for number in row}
    safe = all(spot[ahead] < spot[behind] for ahead, behind in pairs(exchange))
    return safe and len(way) == len(shown) and all(pair in pairs(exchange) for pair in zip(way, way[1:]))


class Rounds(Case):
    def test_the_chain_of_four(self):
        self.same([rounds(four()), chain(four())], [[(1, 3), (0, 2)], (1, 0)])
        self.same([rounds(exchange=four()), chain(exchange=four())], [[(1, 3), (0, 2)], (1, 0)])

    def test_no_steps(self):
        for exchange in (plain({}, {}), plain({"/a": "x"}, {"/a": "x"})):
            self.same([rounds(exchange), chain(exchange)], [[], ()])
            self.assertIs(shows_rounds(exchange, [], ()), True)

    def test_free_steps(self):
        exchange = plain({"/a": "x", "/b": "x", "/c": "x"}, {"/b": "y"})
        self.same([rounds(exchange), chain(exchange)], [[(0, 1, 2)], (0,)])

    def test_nested_rows(self):
        puts = of_kinds({place: "new" for place in nested(8)})
        self.same([rounds(puts), chain(puts)], [[(number,) for number in range(7, -1, -1)], tuple(range(7, -1, -1))])
        takes = of_kinds({place: "old" for place in nested(8)})
        self.same([rounds(takes), chain(takes)], [[(number,) for number in range(8)], tuple(range(8))])

    def test_each_step_as_early_as_it_can(self):
        exchange = of_kinds({"/a": "old", "/a/b": "old", "/a/c": "turned", "/d": "new", "/d/e": "new", "/d/e/f": "new"})
        self.same(exchange.sentences, ((0, 1, "r", "old/old"), (4, 3, "r", "new/new"), (5, 4, "r", "new/new")))
        self.same([rounds(exchange), chain(exchange)], [[(0, 2, 5), (1, 4), (3,)], (5, 4, 3)])

    def test_the_least_of_the_longest(self):
        exchange = of_kinds({"/b": "old", "/b/a": "old", "/b/c": "old", "/a": "new", "/a/b": "new"})
        self.same(longest_chains(exchange), [(1, 0), (2, 3), (2, 4)])
        self.same(chain(exchange), (1, 0))
        takes = of_kinds({"/b": "old", "/b/c": "old", "/b/a": "old"})
        self.same(chain(takes), (0, 1))

    def test_against_all_chains(self):
        most = 0
        for columns, seed in (("r", 90), ("rw", 91), ("rwz", 92)):
            for exchange in some_exchanges(seed, 120, columns, 8):
                if ring(exchange) is not None:
                    continue
                found = rounds(exchange)
                self.assertIs(type(found), list)
                spots = [earliest(exchange, number) for number in range(len(exchange))]
                wanted = [tuple(n for n in range(len(exchange)) if spots[n] == at) for at in range(max(spots, default=-1) + 1)]
                self.same(found, wanted)
                self.same(chain(exchange), longest_chains(exchange)[0])
                self.assertIs(shows_rounds(exchange, found, chain(exchange)), True)
                most = max(most, len(found))
        self.assertGreater(most, 3)

    def test_each_order_within_safe_rounds_is_strict(self):
        for exchange in few_steps(93, 40, 5, "rw", 5):
            if ring(exchange) is None:
                for rows in product(*[list(permutations(row)) for row in rounds(exchange)]):
                    self.assertIs(Plan(exchange, [number for row in rows for number in row]).is_strict, True)

    def test_ringed(self):
        for exchange in (ringed(), forty_with_a_ring()):
            for call in (rounds, chain):
                with self.assertRaises(Ringed) as caught:
                    call(exchange)
                self.assertIs(is_ring(exchange, caught.exception.ring), True)

    def test_forty_rows_at_once(self):
        exchange = of_kinds({place: "new" for start in ("/a", "/b", "/c", "/d", "/e") for place in nested(7, start)})
        self.same([len(exchange), len(rounds(exchange)), chain(exchange)], [35, 7, (6, 5, 4, 3, 2, 1, 0)])
        rows = {f"/p{number}": "rwz" for number in range(10)}
        divided = wide("rwz", {**rows, **{f"{place}/{deep}": "rwz" for place in rows for deep in "abc"}}, {}, list(rows))
        self.same([len(divided), len(rounds(divided)), chain(divided)], [60, 2, (0, 3)])


class Shown(Case):
    def check(self, exchange, shown, way):
        self.assertIs(shows_rounds(exchange, shown, way), truth(exchange, shown, way), f"{shown!r} {way!r}")
        return truth(exchange, shown, way)

    def test_the_told_ones_and_each_round_turned(self):
        for exchange in (four(), *few_steps(94, 40, 6, "rw", 5)):
            if ring(exchange) is None:
                way = chain(exchange)
                for rows in product(*[list(permutations(row)) for row in rounds(exchange)]):
                    self.assertIs(shows_rounds(exchange, list(rows), way), True)
                    self.assertIs(shows_rounds(exchange, rows, way), True)

    def test_all_chains(self):
        seen = 0
        for exchange in (four(), *some_exchanges(95, 60, "rw", 6)):
            if ring(exchange) is None:
                for way in chains(exchange):
                    seen += self.check(exchange, rounds(exchange), way)
        self.assertGreater(seen, 100)

    def test_with_one_round_any_step(self):
        exchange = plain({"/a": "x", "/b": "x", "/c": "x"}, {})
        for number in range(3):
            self.assertIs(shows_rounds(exchange, ((2, 0, 1),), (number,)), True)
        for way in [(), (3,), (-1,), (0, 1), (True,), ("0",), [0], 0, None]:
            self.assertIs(shows_rounds(exchange, ((2, 0, 1),), way), False)

    def test_a_step_elsewhere(self):
        for exchange in (four(), of_kinds({"/a": "old", "/a/b": "old", "/a/c": "turned", "/d": "new", "/d/e": "new", "/d/e/f": "new"})):
            shown, way = rounds(exchange), chain(exchange)
            seen = 0
            for number in range(len(exchange)):
                left = [tuple(step for step in row if step != number) for row in shown]
                self.check(exchange, left, way)
                self.check(exchange, [row for row in left if row], way)
                for at in range(len(shown)):
                    moved = [(*row, number) if at == index else row for index, row in enumerate(left)]
                    seen += self.check(exchange, moved, way)
                    self.assertIs(shows_rounds(exchange, [(*row, number) if at == index else row for index, row in enumerate(shown)], way), False)
            self.assertGreaterEqual(seen, len(exchange))

    def test_rounds_joined_exchanged_empty_or_more_of_them(self):
        exchange = of_kinds({"/a": "old", "/a/b": "old", "/a/b/c": "old", "/f": "new"})
        way = chain(exchange)
        self.same([rounds(exchange), way], [[(0, 3), (1,), (2,)], (0, 1, 2)])
        self.assertIs(shows_rounds(exchange, [(0,), (1, 3), (2,)], way), True)
        self.assertIs(shows_rounds(exchange, [(0,), (1,), (3, 2)], way), True)
        for wrong in [[(0, 3, 1), (2,)], [(0, 3), (1, 2)], [(1,), (0, 3), (2,)], [(0, 3), (2,), (1,)], [(0, 3), (), (1,), (2,)], [(0, 3), (1,), (2,), ()],
                      [(0,), (3,), (1,), (2,)], [], [()], [(0, 1, 2, 3)], [(0, 3), (1,)], [(0, 3), (1,), (2, 4)], [(0, 3), (1,), (2, -1)]]:
            self.assertIs(shows_rounds(exchange, wrong, way), False)
        self.assertIs(shows_rounds(exchange, [(0,), (3,), (1,), (2,)], (0, 1, 2, 3)), False)

    def test_a_chain_cut_or_longer(self):
        exchange = of_kinds({"/a": "old", "/a/b": "old", "/a/b/c": "old", "/f": "new"})
        for way in [(0, 1), (1, 2), (0,), (), (0, 1, 2, 3), (0, 1, 2, 0), (2, 1, 0), (0, 2, 1), (0, 2), (0, 0, 1), (0, 1, 3), (0, 1, 2, 2)]:
            self.assertIs(shows_rounds(exchange, rounds(exchange), way), False)

    def test_values_of_all_kinds(self):
        for exchange in (four(), ringed(), plain({}, {}), plain({"/a": "x"}, {})):
            for value in [*values(exchange), [[1, 3], [0, 2]], [(1, 3), [0, 2]], [(1, 3), (0, 2), None], [(1, 3), None], ((True, 3), (0, 2)), ((1, 3), (False, 2)),
                          [("1", 3), (0, 2)], [(1.0, 3), (0, 2)], {(1, 3): 0, (0, 2): 1}, ((1, 3), (0, (2,)))]:
                self.check(exchange, value, (1, 0))
                self.check(exchange, [(1, 3), (0, 2)], value)
                self.check(exchange, value, value)
        for way in [[1, 0], (True, 0), (1, False), (1, None), (1, "0"), None, True, {1: 0}]:
            self.assertIs(shows_rounds(four(), [(1, 3), (0, 2)], way), False)
        self.assertIs(shows_rounds(chain=(1, 0), rounds=[(1, 3), (0, 2)], exchange=four()), True)

    def test_false_with_a_ring(self):
        exchange = ringed()
        for shown in [[(0, 1)], [(0,), (1,)], [(1,), (0,)]]:
            for way in [(0,), (1,), (0, 1), (1, 0), (0, 1, 0)]:
                self.assertIs(shows_rounds(exchange, shown, way), False)

    def test_a_ring_of_three_and_parts(self):
        exchange = ringed().divide("/p")
        self.same([rounds(exchange), chain(exchange), count(exchange)], [[(0,), (2,), (1,)], (0, 2, 1), 1])
        self.assertIs(shows_rounds(exchange, ((0,), (2,), (1,)), (0, 2, 1)), True)
        triple = wide("rwz", {"/p": "r", "/p/q": "rw", "/p/q/s": "w"}, {"/p": "z", "/p/q/s": "z"})
        for row in permutations(range(3)):
            self.assertIs(shows_rounds(triple, [(number,) for number in row], (0, 1, 2)), False)

    def test_two_columns(self):
        exchange = two({"/a": {"r": "1", "w": "2"}, "/a/b": {"r": "3"}}, {"/a/b/c": {"w": "4"}})
        self.same(exchange.sentences, ((0, 1, "r", "old/old"), (2, 0, "w", "old/new")))
        self.same([rounds(exchange), chain(exchange)], [[(2,), (0,), (1,)], (2, 0, 1)])
        self.same(factorial(3) // 6, count(exchange))


if __name__ == "__main__":
    unittest.main()
