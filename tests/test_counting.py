import unittest
from math import factorial
from random import Random

from helpers import NO_NAMES, Case
from nearestsays.counting import count, nth, rank
from nearestsays.errors import BadPlan, NoOrder, TooMany
from nearestsays.orders import least_order
from nearestsays.places import Place
from nearestsays.plans import Plan
from nearestsays.rings import ring
from small import few_steps, forty_with_a_ring, keeps, nested, orders_of, ringed, some_exchanges, some_plans, wide
from test_exchange import of_kinds, plain, two
from test_plans import ALIKE, chain

NO_NUMBERS = [None, True, False, "0", "", [0], (0,), [], (), {}, {0: 0}, Place("a"), Place(), chain(), Plan(chain())]

# Three rows of which sentences connect each two: four strict standings.
TRIANGLE = {"/a": "rw", "/a/b": "r", "/a/b/c": "rw"}


def free(many, start="/f"):
    """Rows that no sentence binds, by their places."""
    return {f"{start}{number}": "r" for number in range(10, 10 + many)}


def fork(start, many):
    """A row with so many below it: the many sets of these, and one standing more, are strict."""
    return {start: "r", **{f"{start}/{number}": "r" for number in range(10, 10 + many)}}


def taken(*rows):
    """An exchange in which all these rows are taken, told by the signs of their columns."""
    first = {}
    for row in rows:
        first.update(row)
    return wide("rw", first, {})


def steps_in_tree(places, place):
    return sum(other == place or other.startswith(place + "/") for other in places)


class Small(Case):
    def check(self, exchange):
        wanted = orders_of(exchange)
        self.same(count(exchange), len(wanted))
        for k, row in enumerate(wanted):
            self.assertEqual(nth(exchange, k), Plan(exchange, row))
            self.same(rank(Plan(exchange, row)), k)
        for k in (-1, len(wanted), len(wanted) + 1, -len(wanted)):
            if not 0 <= k < len(wanted):
                self.refused(NoOrder, {"k": k}, nth, exchange, k)
        return len(wanted)

    def test_the_chain(self):
        self.same(self.check(chain()), 5)
        self.same([count(exchange=chain()), nth(exchange=chain(), k=3).numbers, rank(plan=Plan(chain(), (1, 3, 2, 0)))], [5, (3, 1, 0, 2), 2])

    def test_no_steps(self):
        for exchange in (plain({}, {}), plain({"/a": "x"}, {"/a": "x"})):
            self.same([count(exchange), nth(exchange, 0).numbers, rank(Plan(exchange))], [1, (), 0])
            self.refused(NoOrder, {"k": 1}, nth, exchange, 1)

    def test_right_orders_that_are_not_strict_do_not_count(self):
        self.same(self.check(plain(*ALIKE)), 2)

    def test_one_column(self):
        self.assertGreater(sum(self.check(exchange) for exchange in few_steps(80, 150, 6, "r", 6)), 1000)

    def test_two_columns_and_three(self):
        self.assertGreater(sum(self.check(exchange) for exchange in few_steps(81, 130, 6, "rw", 5)), 1000)
        self.assertGreater(sum(self.check(exchange) for exchange in few_steps(82, 130, 6, "rwz", 4)), 1000)

    def test_rings_and_circles_are_among_them(self):
        exchanges = few_steps(81, 130, 6, "rw", 5) + few_steps(82, 130, 6, "rwz", 4)
        self.assertGreater(sum(ring(exchange) is not None for exchange in exchanges), 5)
        self.same(self.check(taken(TRIANGLE)), 1)
        self.same(self.check(taken(TRIANGLE, fork("/x", 2))), 40)
        self.same(self.check(taken(TRIANGLE, free(2))), 20)
        diamond = wide("rwz", {"/a": "rw", "/a/b": "rz", "/a/b/c": "w", "/a/b/c/d": "z"}, {"/a/b/c/d": "w"})
        self.check(diamond)

    def test_divided_places(self):
        self.same(self.check(ringed()), 0)
        self.same(self.check(ringed().divide("/p")), 1)
        self.same(self.check(ringed().divide("/p/q")), 1)
        self.same(self.check(ringed().divide("/p", "/p/q")), 6)
        self.check(wide("rwz", {"/a": "rwz", "/a/b": "rw"}, {"/a/b": "wz"}, ["/a", "/a/b"]))


class ManySteps(Case):
    def check(self, exchange, wanted):
        """The count, and orders here and there, against the next ones and by their numbers."""
        self.same(count(exchange), wanted)
        self.assertEqual(nth(exchange, 0), least_order(exchange))
        random = Random(83)
        for k in [0, wanted - 1, *(random.randrange(wanted) for _ in range(3))]:
            order = nth(exchange, k)
            self.same([order.is_whole, keeps(exchange, order.numbers), rank(order)], [True, True, k])
            if k:
                self.assertLess(nth(exchange, k - 1).numbers, order.numbers)
        self.refused(NoOrder, {"k": wanted}, nth, exchange, wanted)
        self.refused(NoOrder, {"k": -1}, nth, exchange, -1)

    def test_free_steps(self):
        for many in (1, 7, 24):
            self.check(plain({}, {place: "x" for place in free(many)}), factorial(many))

    def test_nested_rows_all_put_and_all_taken(self):
        chains = [place for start in ("/a", "/b", "/c", "/d") for place in nested(6, start)[:6]]
        bush = ["/a", "/a/a", "/a/b", "/a/b/a", "/a/b/b", "/a/b/c", "/a/c", "/a/c/a", "/b", "/b/a", "/b/a/a", "/b/a/b", "/b/a/a/a", "/b/a/a/b",
                "/c", "/c/a", "/c/b", "/c/c", "/c/d", "/c/e", "/c/a/a", "/c/a/b", "/c/a/c", "/d"]
        mixed = nested(8, "/a")[:7] + ["/b", "/c", "/c/d"]
        for places in (chains, bush, mixed):
            wanted = factorial(len(places))
            for place in places:
                wanted //= steps_in_tree(places, place)
            for kind in ("new", "old"):
                self.check(of_kinds({place: kind for place in places}), wanted)
        self.same([len(chains), len(bush)], [24, 24])

    def test_rows_of_all_kinds_that_make_no_circle(self):
        random = Random(84)
        for _ in range(6):
            places = sorted({"/" + "/".join(random.choice("ab") for _ in range(random.randint(1, 6))) for _ in range(20)})
            exchange = of_kinds({place: random.choice(["old", "new", "turned", "kept"]) for place in places})
            self.check(exchange, count(exchange))

    def test_columns_that_say_the_same_are_one_connection(self):
        exchange = taken({"/a": "rw", "/a/b": "rw"}, free(22))
        self.same(len(exchange.sentences), 2)
        self.check(exchange, factorial(24) // 2)
        crossed = wide("rw", {"/a": "r", "/a/b": "rw", **free(21)}, {"/a": "w"})
        self.same([len(crossed), count(crossed)], [23, factorial(23) // 2])

    def test_twenty_five_steps(self):
        for exchange in (taken(free(25)), taken(TRIANGLE, free(22)), of_kinds({place: "new" for place in free(25)})):
            self.refused(TooMany, {"most": 24}, count, exchange)
            for k in [0, -1, *NO_NUMBERS, *NO_NAMES]:
                self.refused(TooMany, {"most": 24}, nth, exchange, k)
            for numbers in ([], list(range(25)), list(range(24, -1, -1))):
                self.refused(TooMany, {"most": 24}, rank, Plan(exchange, numbers))
        self.same(count(taken(free(24))), factorial(24))

    def test_twenty_five_steps_with_a_ring(self):
        exchange = wide("rw", {"/p": "r", "/p/q": "r", **free(23)}, {"/p": "w", "/p/q": "w"})
        self.assertIsNotNone(ring(exchange))
        for ringed_too in (exchange, forty_with_a_ring()):
            self.refused(TooMany, {"most": 24}, count, ringed_too)
            self.refused(TooMany, {"most": 24}, nth, ringed_too, 0)
            self.refused(TooMany, {"most": 24}, rank, Plan(ringed_too, [0]))
        fewer = wide("rw", {"/p": "r", "/p/q": "r", **free(22)}, {"/p": "w", "/p/q": "w"})
        self.same([len(fewer), count(fewer)], [24, 0])

    def test_the_parts_count(self):
        rows = {f"/f{number}": "rw" for number in range(12)}
        self.same(count(wide("rw", rows, {}, list(rows))), factorial(24))
        self.refused(TooMany, {"most": 24}, count, wide("rw", {**rows, "/g": "r"}, {}, list(rows)))


class Circles(Case):
    def test_two_thousand_strict_standings(self):
        # 4 * 2 * 2 * 5 * 5 * 5 standings
        exchange = taken(TRIANGLE, free(2), fork("/x", 2), fork("/y", 2), fork("/z", 2))
        self.same(len(exchange), 14)
        wanted = factorial(14) // 6 // 3 ** 3
        ManySteps.check(self, exchange, wanted)

    def test_more_than_two_thousand(self):
        # 4 * 7 * 8 * 9 standings, of sixteen steps
        exchange = taken(TRIANGLE, {place: "r" for place in nested(7, "/x")[:6]}, free(3), fork("/y", 3))
        self.same(len(exchange), 16)
        self.refused(TooMany, {"most": 2000}, count, exchange)
        for k in [0, -1, 10 ** 9, *NO_NUMBERS]:
            self.refused(TooMany, {"most": 2000}, nth, exchange, k)
        whole = least_order(exchange).numbers
        for numbers in ([], whole, whole[:3], whole[::-1]):
            self.refused(TooMany, {"most": 2000}, rank, Plan(exchange, numbers))

    def test_just_below_and_above_by_free_steps(self):
        self.same(count(taken(TRIANGLE, free(8))), factorial(11) // 6)
        self.refused(TooMany, {"most": 2000}, count, taken(TRIANGLE, free(9)))
        self.refused(TooMany, {"most": 2000}, count, taken(TRIANGLE, free(21)))

    def test_a_circle_only_with_steps_of_more_columns(self):
        self.same(count(taken({"/a": "r", "/a/b": "r", "/a/b/c": "r"}, free(21))), factorial(24) // 6)

    def test_with_a_ring_there_are_none_however_many_standings_there_are(self):
        triple = {"/p": "r", "/p/q": "rw", "/p/q/s": "w"}
        exchange = wide("rwz", {**triple, **free(20)}, {"/p": "z", "/p/q/s": "z"})
        self.assertIsNotNone(ring(exchange))
        both = wide("rw", {**TRIANGLE, "/p": "r", "/p/q": "r", **free(19)}, {"/p": "w", "/p/q": "w"})
        first = wide("rw", {"/a": "r", "/a/b": "r", **free(20)}, {"/a": "w", "/a/b": "w"})
        for ringed_too in (exchange, both, first):
            self.same(count(ringed_too), 0)
            self.refused(NoOrder, {"k": 0}, nth, ringed_too, 0)
            self.refused(BadPlan, {"at": 0}, rank, Plan(ringed_too))

    def test_without_a_circle_however_many_standings_there_are(self):
        self.same(count(taken(free(24))), factorial(24))
        exchange = taken(fork("/x", 11), fork("/y", 11))
        self.same([len(exchange), count(exchange)], [24, factorial(24) // 12 ** 2])


class NearTheLimit(Case):
    """Against a plain search: each strict standing, with the steps that may come and the ways on."""

    def exchanges(self):
        rows = {"/a": {"r": "x", "w": "x"}, "/a/b": {"r": "x"}, "/a/b/c": {"r": "x", "w": "x"}}
        yield two({**rows, **{f"/f{number}": {"r": "x"} for number in range(8)}}, {}), 1024, 6652800
        chains = {place: "r" for start, many in (("/x", 8), ("/y", 8), ("/z", 5)) for place in (start, *nested(many - 1, start))}
        yield taken(TRIANGLE, chains), 4 * 9 * 9 * 6, factorial(24) // factorial(3) // factorial(8) ** 2 // factorial(5)
        leaves = {f"/a/x{number}": "r" for number in range(9)}
        yield taken(TRIANGLE, leaves), 1 + 3 * 2 ** 9, None
        yield wide("rw", {}, {**TRIANGLE, **leaves}), 1 + 3 * 2 ** 9, None
        # Many steps to begin with, and one after another to end with.
        yield wide("rw", {}, {**TRIANGLE, **{f"/a/b/c/x{number}": "r" for number in range(9)}}), 3 + 2 ** 9, None
        yield wide("rw", {}, {**TRIANGLE, "/z": "r", "/z/a": "r", **{f"/a/b/c/x{number}": "r" for number in range(4)},
                              **{f"/a/b/y{number}": "w" for number in range(3)}, "/a/b/c/x1/a": "r", "/a/b/c/x1/b": "r"}), None, None
        # Rows of all kinds in three columns, each connected to the others.
        yield wide("rwz", {"/a": "rw", "/a/b": "rz", **{f"/a/b/c{number}": "r" for number in range(5)}, "/a/d": "w"},
                   {"/a": "z", **{f"/a/b/e{number}": "r" for number in range(2)}, **{f"/a/d/f{number}": "w" for number in range(4)}, "/a/b/c1/g": "z"}), None, None
        yield wide("rw", {**TRIANGLE, **fork("/a/b/c/x", 3), **fork("/a/b/y", 3), "/z": "rw", "/z/u": "r", "/z/u/v": "w"}, {"/z/u/v/w": "rw"}), None, None
        yield wide("rwz", {"/a": "rwz", "/a/b": "rw"}, {place: "r" for place in nested(5, "/a/c")} | {"/a/b/d": "w", "/a/b": "z"}, ["/a"]), None, None

    def searched(self, exchange):
        """The ways on from each strict standing to the whole one, and the steps that may come there."""
        ahead = [frozenset(s[0] for s in exchange.sentences if s[1] == number) for number in range(len(exchange))]
        free, levels = {}, [{frozenset()}]
        while levels[-1]:
            for done in levels[-1]:
                free[done] = [number for number in range(len(exchange)) if number not in done and ahead[number] <= done]
            levels.append({done | {number} for done in levels[-1] for number in free[done]})
        ways = {}
        for done in reversed(free):
            ways[done] = sum(ways[done | {number}] for number in free[done]) or int(len(done) == len(exchange))
        return ways, free

    def order(self, exchange, ways, free, k):
        row = []
        while len(row) < len(exchange):
            for number in free[frozenset(row)]:
                many = ways[frozenset((*row, number))]
                if k < many:
                    break
                k -= many
            row.append(number)
        return tuple(row)

    def test_against_a_plain_search(self):
        random = Random(86)
        for exchange, standings, wanted in self.exchanges():
            ways, free = self.searched(exchange)
            total = ways[frozenset()]
            self.assertLessEqual(len(ways), 2000)
            self.same([standings or len(ways), wanted or total], [len(ways), total])
            self.same(count(exchange), total)
            for k in [0, 1, 1000, total - 1, *(random.randrange(total) for _ in range(12))]:
                if k < total:
                    order = self.order(exchange, ways, free, k)
                    self.same(nth(exchange, k).numbers, order)
                    self.same(rank(Plan(exchange, order)), k)
            self.refused(NoOrder, {"k": total}, nth, exchange, total)

    def test_many_random_ones_with_circles(self):
        random = Random(87)
        seen = 0
        for columns, seed in (("rw", 88), ("rwz", 89)):
            for exchange in few_steps(seed, 250, 12, columns, 12):
                if ring(exchange) is not None:
                    continue
                ways, free = self.searched(exchange)
                total = ways[frozenset()]
                if len(ways) > 2000:
                    continue
                self.same(count(exchange), total)
                k = random.randrange(total)
                order = self.order(exchange, ways, free, k)
                self.same([nth(exchange, k).numbers, rank(Plan(exchange, order))], [order, k])
                seen += len(ways) > 60
        self.assertGreater(seen, 40)


class Refused(Case):
    def test_values_that_are_no_integers(self):
        for exchange in (chain(), plain({}, {}), ringed(), taken(TRIANGLE), taken(free(24))):
            for value in [*NO_NUMBERS, *[value for value in NO_NAMES if not (type(value) is int and value in (0, 7))]]:
                with self.assertRaises(NoOrder) as caught:
                    nth(exchange, value)
                self.assertIs(caught.exception.k, value)

    def test_integers_out_of_range(self):
        for k in (-1, 5, 6, 10 ** 30, -10 ** 30):
            self.refused(NoOrder, {"k": k}, nth, chain(), k)

    def test_every_k_with_a_ring(self):
        for exchange in (ringed(), wide("rw", {"/p": "r", "/p/q": "r", "/f": "r"}, {"/p": "w", "/p/q": "w"})):
            for k in (0, 1, -1, 5, None, True):
                self.refused(NoOrder, {"k": k}, nth, exchange, k)

    def test_rank_of_plans_that_are_not_strict(self):
        for numbers, at in {(0,): 0, (0, 1, 2, 3): 0, (1, 2): 1, (1, 2, 0, 3): 1, (1, 0, 2): 2, (1, 0, 2, 3): 2, (3, 0, 1, 2): 1, (3, 2): 1}.items():
            self.refused(BadPlan, {"at": at}, rank, Plan(chain(), numbers))

    def test_rank_of_plans_that_are_not_whole(self):
        for numbers in [(), (1,), (3, 1), (1, 0, 3)]:
            self.refused(BadPlan, {"at": len(numbers)}, rank, Plan(chain(), numbers))

    def test_rank_with_a_ring(self):
        exchange = wide("rw", {"/f": "r", "/p": "r", "/p/q": "r"}, {"/p": "w", "/p/q": "w"})
        for numbers, at in {(): 0, (0,): 1, (1,): 0, (0, 1): 1, (0, 2, 1): 1, (2, 1, 0): 0, (1, 2): 0}.items():
            self.refused(BadPlan, {"at": at}, rank, Plan(exchange, numbers))

    def test_rank_against_strict_heads(self):
        random = Random(85)
        found = 0
        for exchange in some_exchanges(85, 120, "rw", 5):
            for plan in some_plans(exchange, random):
                heads = [at for at in range(len(plan)) if not plan.head(at + 1).is_strict]
                if heads or not plan.is_whole:
                    self.refused(BadPlan, {"at": heads[0] if heads else len(plan)}, rank, plan)
                    found += 1
        self.assertGreater(found, 300)


if __name__ == "__main__":
    unittest.main()
