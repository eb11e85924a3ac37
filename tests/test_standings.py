import unittest
from itertools import combinations

from helpers import Case, rows_of, told_by, values
from nearestsays.errors import BadStanding, ManyColumns
from nearestsays.exchange import Exchange, unlike
from nearestsays.places import Place
from nearestsays.plans import Plan
from nearestsays.standings import (
    is_right, is_strict, may_come, right_standings, strict_standings, table_at, third_at,
)
from nearestsays.tables import Table
from small import few_steps, is_closed, nested, ringed, rows_at, sets_of, third_places, wide
from test_exchange import of_kinds, plain, some, two
from test_plans import ALIKE, chain

TAKERS = (table_at, third_at, is_right, is_strict, may_come)


def rights(exchange):
    return sum(not third_places(exchange, done) for done in sets_of(exchange))


def stricts(exchange):
    return sum(is_closed(exchange, done) for done in sets_of(exchange))


class Values(Case):
    def wrong(self, exchange, value):
        for call in TAKERS:
            with self.assertRaises(BadStanding) as caught:
                call(exchange, value)
            self.assertIs(caught.exception.value, value)

    def test_lists(self):
        for value in ([], [0], [0, 1], [0, 1, 2, 3]):
            self.wrong(chain(), value)

    def test_numbers_that_are_none(self):
        for part in [True, False, None, "0", "", -1, 4, 100, -100, 1.0, (1,), [1], {}, Place("p"), chain().steps[1]]:
            for value in [(part,), (0, part), (part, 3), (0, part, 3)]:
                self.wrong(chain(), value)

    def test_twice_and_not_ascending(self):
        for value in [(0, 0), (1, 1, 2), (0, 2, 2), (1, 0), (0, 2, 1), (3, 2, 1, 0), (0, 1, 2, 3, 3), (2, 3, 1)]:
            self.wrong(chain(), value)

    def test_beyond_the_steps(self):
        self.wrong(chain(), (4,))
        self.wrong(chain(), (0, 1, 2, 3, 4))
        self.wrong(plain({}, {}), (0,))
        self.wrong(ringed(), (0, 1, 2))
        self.same(is_strict(ringed().divide("/p"), (0, 1, 2)), True)

    def test_values_of_all_kinds(self):
        for exchange in (chain(), plain({}, {})):
            for value in values(exchange):
                if value not in ((), (0,)) or type(value) is not tuple:
                    self.wrong(exchange, value)
            self.wrong(exchange, Plan(exchange))
            self.wrong(exchange, {0: True})

    def test_by_name(self):
        for call in TAKERS:
            self.assertEqual(call(standing=(0, 1), exchange=chain()), call(chain(), (0, 1)))


class Told(Case):
    def test_table_at(self):
        self.same(rows_of(table_at(chain(), (0, 1))), {"/p/q": {"r": "2"}, "/p/q/r": {"r": "3"}})
        self.assertEqual(table_at(chain(), ()), chain().first_copy())
        self.assertEqual(table_at(chain(), (0, 1, 2, 3)), chain().second_copy())
        self.same(rows_of(table_at(some(["/c"]), (4,))).get("/c"), None)
        self.same(rows_of(table_at(some(["/c"]), (3, 4))).get("/c"), {"r": "y"})
        table_at(chain(), ()).put("/p", r="changed")
        self.assertEqual(table_at(chain(), ()), chain().first_copy())

    def test_third_at(self):
        exchange = plain(*ALIKE)
        self.same([third_at(exchange, done) for done in ((), (0,), (1,), (2,), (0, 1), (0, 2), (1, 2), (0, 1, 2))],
                  [None, None, None, None, ("/s/r", "r", "q"), None, None, None])
        self.same(third_at(chain(), (0,)), ("/p/q", "r", None))
        self.same(third_at(chain(), (1, 2)), ("/p/q/r/s", "r", "2"))
        self.same(third_at(chain(), (0, 2)), ("/p/q", "r", None))

    def test_the_first_place_and_there_the_first_column(self):
        exchange = two({"/": {"r": "1", "w": "2"}}, {"/a": {"w": "3"}, "/b": {"r": "4"}})
        self.same([third_at(exchange, (0,)), third_at(exchange, (0, 1))], [("/a", "w", None), ("/b", "r", None)])
        exchange = Exchange(Table(["w", "r"], {"/": {"r": "1", "w": "2"}}), Table(["w", "r"], {"/a": {"w": "3", "r": "4"}}))
        self.same(third_at(exchange, (0,)), ("/a", "w", None))

    def test_against_a_look_at_every_place(self):
        wrong = 0
        for columns, seed in (("r", 110), ("rw", 111), ("rwz", 112)):
            for exchange in few_steps(seed, 40, 5, columns):
                for done in sets_of(exchange):
                    rows = rows_at(exchange, done)
                    self.assertEqual(table_at(exchange, done), Table(list(columns), rows))
                    spots = third_places(exchange, done)
                    wanted = None
                    if spots:
                        place, column = min(spots, key=lambda spot: (spot[0], columns.index(spot[1])))
                        wanted = (place, column, told_by(rows, place, column))
                        wrong += 1
                    self.same(third_at(exchange, done), wanted)
                    self.assertIs(is_right(exchange, done), wanted is None)
        self.assertGreater(wrong, 80)


class Judged(Case):
    def test_is_strict(self):
        self.same([done for done in sets_of(chain()) if is_strict(chain(), done)],
                  [(), (1,), (3,), (0, 1), (1, 3), (0, 1, 3), (1, 2, 3), (0, 1, 2, 3)])
        exchange = plain(*ALIKE)
        self.same([done for done in sets_of(exchange) if is_strict(exchange, done)], [(), (0,), (2,), (0, 2), (0, 1, 2)])

    def test_is_strict_against_the_sentences(self):
        for columns, seed in (("r", 113), ("rw", 114), ("rwz", 115)):
            for exchange in few_steps(seed, 60, 6, columns):
                for done in sets_of(exchange):
                    self.assertIs(is_strict(exchange, done), is_closed(exchange, done))
                    if is_closed(exchange, done):
                        self.assertIs(is_right(exchange, done), True)
                self.same([is_strict(exchange, row) for row in ((), tuple(range(len(exchange))))], [True, True])

    def test_with_a_ring(self):
        self.same([is_strict(ringed(), done) for done in sets_of(ringed())], [True, False, False, True])
        self.same([is_right(ringed(), done) for done in sets_of(ringed())], [True, False, False, True])

    def test_with_unlike_answers_right_is_strict(self):
        for exchange in few_steps(116, 60, 5, "rw"):
            for done in sets_of(exchange):
                self.assertIs(is_right(unlike(exchange), done), is_strict(exchange, done))


class MayCome(Case):
    def test_the_example(self):
        exchange = plain(*ALIKE)
        self.same([may_come(exchange, done) for done in ((), (0,), (1,), (2,), (0, 2), (1, 2), (0, 1, 2))],
                  [(0, 1, 2), (2,), (2,), (0, 1), (1,), (0,), ()])

    def test_whether_the_standing_is_right_is_not_asked(self):
        exchange = plain(*ALIKE)
        self.same([is_right(exchange, (0, 1)), may_come(exchange, (0, 1))], [False, (2,)])
        self.same([is_right(chain(), (0,)), may_come(chain(), (0,))], [False, (1,)])

    def test_against_all_standings(self):
        for columns, seed in (("r", 117), ("rw", 118), ("rwz", 119)):
            for exchange in few_steps(seed, 30, 5, columns):
                right = {done: not third_places(exchange, done) for done in sets_of(exchange)}
                for done in right:
                    wanted = [n for n in range(len(exchange)) if n not in done and right[tuple(sorted((*done, n)))]]
                    self.same(may_come(exchange, done), tuple(wanted))

    def test_a_standing_that_is_stuck(self):
        self.same(may_come(ringed(), ()), ())
        self.same(may_come(ringed(), (0,)), (1,))

    def test_forty_rows(self):
        exchange = plain({}, {f"/a{number}": "x" for number in range(10, 50)})
        self.same(may_come(exchange, tuple(range(0, 40, 2))), tuple(range(1, 40, 2)))


class Numbers(Case):
    def check(self, exchange, right, strict):
        self.same([right_standings(exchange), strict_standings(exchange)], [right, strict])
        self.same([right_standings(exchange=exchange), strict_standings(exchange=exchange)], [right, strict])

    def test_the_example(self):
        self.check(plain(*ALIKE), 7, 5)
        self.check(chain(), 8, 8)
        self.check(plain({}, {}), 1, 1)
        self.check(plain({"/a": "x"}, {"/a": "x"}), 1, 1)

    def test_against_all_sets(self):
        more = 0
        for spots, many in ((4, 150), (7, 60)):
            for exchange in few_steps(120 + spots, many, 7, "r", spots):
                right, strict = rights(exchange), stricts(exchange)
                self.check(exchange, right, strict)
                self.check(exchange.back(), right, strict)
                self.check(unlike(exchange), strict, strict)
                more += right > strict
        self.assertGreater(more, 10)

    def test_each_pair_of_kinds(self):
        kinds = ("old", "new", "turned", "kept")
        for upper in kinds:
            for lower in kinds:
                for last in kinds:
                    exchange = of_kinds({"/a": upper, "/a/a": upper, "/a/b": lower, "/a/b/a": last})
                    self.check(exchange, rights(exchange), stricts(exchange))

    def test_divided_rows_of_one_column(self):
        exchange = plain(*ALIKE, divided=["/s"])
        self.check(exchange, 7, 5)

    def test_forty_free_steps(self):
        self.check(plain({}, {f"/a{number}": "x" for number in range(10, 50)}), 2 ** 40, 2 ** 40)
        self.check(plain({f"/a{number}": "x" for number in range(10, 50)}, {}), 2 ** 40, 2 ** 40)
        turned = {place: "turned" for start in ("/a", "/b", "/c", "/d", "/e") for place in (start, *nested(7, start))}
        self.check(of_kinds(turned), 2 ** 40, 2 ** 40)

    def test_long_chains_of_nested_rows(self):
        starts = ("/a", "/b", "/c", "/d", "/e")
        rows = [[start, *nested(7, start)] for start in starts]
        for kind in ("new", "old"):
            self.check(of_kinds({place: kind for row in rows for place in row}), 9 ** 5, 9 ** 5)
        for kinds in (["old", "new"], ["new", "turned", "old"], ["turned", "new", "new", "old"], ["kept", "old", "new", "new", "turned"]):
            one = of_kinds({place: kinds[at % len(kinds)] for at, place in enumerate(rows[0])})
            strict = stricts(one)
            whole = of_kinds({place: kinds[at % len(kinds)] for row in rows for at, place in enumerate(row)})
            self.check(one, strict, strict)
            self.check(whole, strict ** 5, strict ** 5)

    def test_long_chains_with_answers_that_are_alike(self):
        first = {0: "x", 1: "x", 2: "y", 4: "x", 5: "y", 7: "x"}
        second = {0: "y", 2: "x", 3: "x", 4: "y", 6: "x", 7: "x"}
        rows = [[start, *nested(7, start)] for start in ("/a", "/b", "/c", "/d", "/e")]
        tables = [[{row[at]: side[at] for row in part for at in side} for side in (first, second)] for part in (rows[:1], rows)]
        one, whole = (plain(*pair) for pair in tables)
        table = {row[-1] for row in rows}
        self.same([len(table), len(whole.places)], [5, 40])
        right = sum(all(told_by(rows_at(one, done), place, "r") in (one.first_copy()(place) + one.second_copy()(place)) for place in one.places)
                    for done in sets_of(one))
        strict = stricts(one)
        self.assertGreater(right, strict)
        self.check(one, right, strict)
        self.check(whole, right ** 5, strict ** 5)

    def test_one_row_with_many_below(self):
        below = [f"/a/b{number}" for number in range(10, 49)]
        for upper, lower, wanted in [("old", "old", 1 + 2 ** 39), ("old", "new", 1 + 2 ** 39), ("new", "old", 1 + 2 ** 39), ("new", "new", 1 + 2 ** 39),
                                     ("turned", "new", 1 + 2 ** 39), ("turned", "old", 1 + 2 ** 39), ("turned", "turned", 2 ** 40), ("kept", "old", 2 ** 39),
                                     ("old", "turned", 2 ** 40), ("old", "kept", 2)]:
            exchange = of_kinds({"/a": upper, **{place: lower for place in below}})
            self.same(len(exchange.places), 40)
            self.check(exchange, wanted, wanted)

    def test_one_row_with_many_below_that_say_the_same(self):
        below = [f"/a/b{number}" for number in range(10, 49)]
        # With the upper row left each of them may be put, with it done each must be.
        self.check(plain({"/a": "x"}, {"/a": "y", **{place: "x" for place in below}}), 2 ** 39 + 1, 2 ** 39 + 1)
        self.check(plain({"/a": "x"}, {"/a": "y", **{place: "y" for place in below}}), 2 ** 40, 2 ** 39 + 1)
        self.check(plain({"/a": "x", **{place: "x" for place in below}}, {"/a": "y"}), 2 ** 40, 2 ** 39 + 1)
        self.check(plain({"/a": "x", **{place: "y" for place in below}}, {"/a": "y"}), 1 + 2 ** 39, 2 ** 39 + 1)
        self.check(plain({"/a": "x", **{place: "x" for place in below}}, {}), 1 + 2 ** 39 + 2 ** 39 - 1, 2 ** 39 + 1)

    def test_more_columns(self):
        for exchange in (two({}, {}), ringed(), wide("rwz", {"/a": "r"}, {}), two({"/a": {"r": "x"}}, {})):
            self.refused(ManyColumns, {}, right_standings, exchange)
            self.refused(ManyColumns, {}, strict_standings, exchange)

    def test_right_standings_can_be_reached_and_finished_with_one_column(self):
        for exchange in few_steps(125, 60, 6, "r", 6):
            right = [done for done in sets_of(exchange) if is_right(exchange, done)]
            for done in right:
                if len(done) < len(exchange):
                    self.assertTrue(may_come(exchange, done))
                if done:
                    self.assertTrue([less for less in combinations(done, len(done) - 1) if is_right(exchange, less)])


if __name__ == "__main__":
    unittest.main()
