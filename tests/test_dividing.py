import unittest
from itertools import combinations

from helpers import Case, values
from nearestsays.counting import count
from nearestsays.dividing import candidates, fewest_divided, shows_divided
from nearestsays.errors import TooMany
from nearestsays.places import Place
from nearestsays.rings import is_ring, ring
from small import forty_with_a_ring, ringed, rings_of, some_exchanges, wide
from test_exchange import of_kinds, plain, two
from test_plans import chain


def pairs(*starts, more=()):
    """Rows in a ring two by two: each start and a place below it."""
    first = {place: "r" for start in starts for place in (start, start + "/q")}
    second = {place: "w" for start in starts for place in (start, start + "/q")}
    return wide("rwz", {**first, **dict(more)}, second)


def triple(*starts):
    """Three rows in one ring of three sentences, and as many pairs as there are starts."""
    first = {"/p": "r", "/p/q": "rw", "/p/q/s": "w"}
    second = {"/p": "z", "/p/q/s": "z"}
    for start in starts:
        first.update({start: "r", start + "/q": "r"})
        second.update({start: "w", start + "/q": "w"})
    return wide("rwz", first, second)


def tuples(places):
    return [row for size in range(len(places) + 1) for row in combinations(places, size)]


def places_in_rings(exchange):
    numbers = {sentence[0] for row in rings_of(exchange) for sentence in row}
    return tuple(exchange.steps[number].place for number in sorted(numbers) if len(exchange.steps[number].columns) > 1)


class Candidates(Case):
    def test_the_example(self):
        self.same([candidates(ringed()), candidates(exchange=chain())], [("/p", "/p/q"), ()])

    def test_places_that_are_divided_already(self):
        self.same([candidates(ringed().divide("/p")), candidates(pairs("/a", "/b").divide("/a"))], [(), ("/b", "/b/q")])

    def test_steps_with_one_column_are_none(self):
        exchange = wide("rw", {"/p": "r", "/p/q": "r", "/p/q/s": "r"}, {"/p": "w", "/p/q/s": "w"})
        self.same([candidates(exchange), len(ring(exchange))], [("/p", "/p/q/s"), 3])

    def test_steps_of_several_columns_outside_of_rings_are_none(self):
        exchange = wide("rw", {"/p": "r", "/p/q": "r", "/p/q/s": "rw", "/z": "rw"}, {"/p": "w", "/p/q": "w"})
        self.same(candidates(exchange), ("/p", "/p/q"))

    def test_against_all_rings(self):
        seen = 0
        for columns, seed in (("rw", 100), ("rwz", 101), ("r", 102)):
            for exchange in some_exchanges(seed, 200, columns, 7):
                wanted = places_in_rings(exchange)
                self.same(candidates(exchange), wanted)
                seen += len(wanted) > 1
        self.assertGreater(seen, 20)

    def test_many(self):
        self.same(len(candidates(triple("/a", "/b"))), 7)
        self.same(len(candidates(pairs(*[f"/a{number}" for number in range(10, 30)]))), 40)


class Fewest(Case):
    def check(self, exchange):
        places, reasons = fewest_divided(exchange)
        self.assertIs(type(places), tuple)
        self.assertIs(type(reasons), list)
        rows = tuples(candidates(exchange))
        ringless = [row for row in rows if ring(exchange.divide(*row)) is None]
        self.same(places, ringless[0])
        self.same([other for other, _ in reasons], rows[:rows.index(places)])
        for pair in reasons:
            self.assertIs(type(pair), tuple)
            self.assertIs(is_ring(exchange.divide(*pair[0]), pair[1]), True)
        self.assertIs(shows_divided(exchange, places, reasons), True)
        self.same(fewest_divided(exchange), (places, reasons))
        return len(places)

    def test_the_example(self):
        found = fewest_divided(ringed())
        self.assertIs(type(found), tuple)
        places, reasons = found
        self.same([places, len(reasons), reasons[0][0], count(ringed().divide(*places))], [("/p",), 1, (), 1])
        self.check(ringed())

    def test_without_a_ring(self):
        for exchange in (chain(), plain({}, {}), ringed().divide("/p"), of_kinds({"/a": "old", "/a/b": "old"})):
            self.same(fewest_divided(exchange=exchange), ((), []))
            self.assertIs(shows_divided(exchange, (), []), True)

    def test_small_exchanges(self):
        seen = [0] * 5
        for columns, seed in (("rw", 103), ("rwz", 104)):
            for exchange in some_exchanges(seed, 150, columns, 7):
                seen[self.check(exchange)] += 1
        self.assertGreater(seen[1], 20)
        self.assertGreater(seen[2], 0)

    def test_some_divided_already(self):
        exchange = pairs("/a", "/b", "/c").divide("/b")
        self.same(fewest_divided(exchange)[0], ("/a", "/c"))
        self.same(self.check(exchange), 2)

    def test_of_the_shortest_the_first_one(self):
        self.same(fewest_divided(pairs("/a", "/b"))[0], ("/a", "/b"))
        middle = wide("rwz", {"/p": "r", "/p/q": "r", "/p/q/s": "w"}, {"/p": "w", "/p/q": "wz", "/p/q/s": "z"})
        self.assertGreater(len(candidates(middle)), 1)
        self.check(middle)
        self.check(triple())

    def test_six_candidates(self):
        exchange = pairs("/a", "/b", "/c")
        self.same([len(candidates(exchange)), self.check(exchange)], [6, 3])
        self.same(len(fewest_divided(exchange)[1]), 1 + 6 + 15 + 5)

    def test_six_candidates_of_forty_rows(self):
        exchange = pairs("/a", "/b", "/c", more={f"/d{number}": "rwz" for number in range(10, 44)})
        self.same([len(exchange), self.check(exchange)], [40, 3])

    def test_seven_candidates(self):
        for exchange in (triple("/a", "/b"), pairs("/a", "/b", "/c", "/d")):
            self.refused(TooMany, {"most": 6}, fewest_divided, exchange)
            for places, reasons in [((), []), (("/a",), []), (None, None), ([], ()), (candidates(exchange), []), (7, "x")]:
                self.refused(TooMany, {"most": 6}, shows_divided, exchange, places, reasons)
        self.same(fewest_divided(triple("/a", "/b").divide("/a"))[0], ("/b", "/p"))

    def test_forty_rows_with_a_ring(self):
        exchange = forty_with_a_ring()
        self.same(fewest_divided(exchange)[0], ("/p",))


class ManyCandidates(Case):
    """Against a plain search: each exchange is made anew, and its steps are done one after another."""

    def can_be_done(self, exchange):
        done = set()
        for _ in range(len(exchange)):
            done |= {n for n in range(len(exchange)) if all(s[0] in done for s in exchange.sentences if s[1] == n)}
        return len(done) == len(exchange)

    def check(self, exchange):
        places, reasons = fewest_divided(exchange)
        rows = tuples(candidates(exchange))
        wanted = next(row for row in rows if self.can_be_done(exchange.divide(*row)))
        self.same([places, [other for other, _ in reasons]], [wanted, rows[:rows.index(wanted)]])
        for other, told in reasons:
            self.assertIs(is_ring(exchange.divide(*other), told), True)
        self.assertIs(shows_divided(exchange, places, reasons), True)
        self.same(fewest_divided(exchange.back().back()), (places, reasons))
        # One number more or less anywhere in a ring, or another column, shows nothing.
        for at in range(0, len(reasons), 5):
            other, told = reasons[at]
            for sentence in range(len(told)):
                for spot, value in ((0, told[sentence][0] + 1), (1, told[sentence][1] - 1), (2, "q"), (3, "new/turned"), (0, str(told[sentence][0]))):
                    part = (*told[sentence][:spot], value, *told[sentence][spot + 1:])
                    changed = (*told[:sentence], part, *told[sentence + 1:])
                    wrong = [*reasons[:at], (other, changed), *reasons[at + 1:]]
                    self.assertIs(shows_divided(exchange, places, wrong), is_ring(exchange.divide(*other), changed))
        return len(places)

    def three_rings(self, more=0):
        first = {place: {"r": "x"} if len(place) == 3 else {"w": "x"} for k in range(3) for place in (f"/a{k}", f"/a{k}/b")}
        second = {place: {"w": "y"} if len(place) == 3 else {"r": "y"} for place in first}
        rows = {f"/d{number}": {"r": "x", "w": "x"} for number in range(10, 10 + more)}
        return two({**first, **rows}, second)

    def test_three_rings(self):
        for more in (0, 34):
            exchange = self.three_rings(more)
            self.same([len(exchange), candidates(exchange)], [6 + more, ("/a0", "/a0/b", "/a1", "/a1/b", "/a2", "/a2/b")])
            self.same(self.check(exchange), 3)

    def test_five_and_six_candidates(self):
        seen = [0, 0]
        for columns, seed in (("rwz", 105), ("rw", 106)):
            for exchange in some_exchanges(seed, 3000, columns, 14):
                many = len(candidates(exchange))
                if many in (5, 6) and seen[many - 5] < 8:
                    self.check(exchange)
                    seen[many - 5] += 1
        self.assertGreater(min(seen), 3)

    def test_a_ring_that_passes_a_row_twice(self):
        # Where /a/a alone is divided, there is a ring that passes it in two columns; it is none where it is whole.
        exchange = wide("rwz", {"/a/a": "z", "/a/a/a": "z", "/a/a/a/a": "w"}, {"/a": "rwz", "/a/a": "rw", "/a/a/a": "w", "/a/a/a/a": "r"})
        self.same(candidates(exchange), ("/a", "/a/a", "/a/a/a", "/a/a/a/a"))
        self.check(exchange)

    def test_a_ring_that_passes_a_divided_row_in_its_column(self):
        # Divided alone, neither of the outer rows takes away the ring that passes the one between them in one column.
        first = {"/p": "r", "/p/q": "rw", "/p/q/s": "rw"}
        exchange = wide("rwz", first, {"/p": "wz", "/p/q": "z", "/p/q/s": "z"})
        self.check(exchange)
        for row in tuples(candidates(exchange)):
            self.same(fewest_divided(exchange.divide(*row))[0] == (), self.can_be_done(exchange.divide(*row)))
            if len(candidates(exchange.divide(*row))):
                self.check(exchange.divide(*row))


class Shown(Case):
    def wrong(self, exchange, places, reasons):
        self.assertIs(shows_divided(exchange, places, reasons), False, f"{places!r}, {reasons!r}")

    def test_any_rings(self):
        exchange = pairs("/a", "/b")
        places, reasons = fewest_divided(exchange)
        self.same([places, len(reasons)], [("/a", "/b"), 6])
        for at, (other, _) in enumerate(reasons):
            for row in rings_of(exchange.divide(*other)):
                changed = [*reasons[:at], (other, row), *reasons[at + 1:]]
                self.assertIs(shows_divided(exchange, places, changed), True)
        self.assertIs(shows_divided(reasons=reasons, places=places, exchange=exchange), True)

    def test_rings_of_another_division(self):
        exchange = pairs("/a", "/b")
        places, reasons = fewest_divided(exchange)
        for at, (other, _) in enumerate(reasons):
            here = rings_of(exchange.divide(*other))
            for division in tuples(candidates(exchange)):
                for row in rings_of(exchange.divide(*division)):
                    if row not in here:
                        self.wrong(exchange, places, [*reasons[:at], (other, row), *reasons[at + 1:]])
            for row in [None, (), [], True, here[0][:1], here[0] + here[0], list(here[0]), tuple(map(list, here[0])), other]:
                self.wrong(exchange, places, [*reasons[:at], (other, row), *reasons[at + 1:]])

    def test_rings_turned_round_and_sentences_cut(self):
        found = 0
        for exchange in (triple(), triple("/a"), pairs("/a", "/b")):
            places, reasons = fewest_divided(exchange)
            for at, (other, _) in enumerate(reasons):
                for row in rings_of(exchange.divide(*other)):
                    turns = [row[::-1], row[1:] + row[:1], (row[1], row[0], *row[2:]), (*row, row[0]), tuple(part[:3] for part in row), tuple((*part, 0) for part in row),
                             (row[0][:2], *row[1:]), ((), *row[1:]), (row[0] + row[0], *row[1:])]
                    for turned in turns:
                        changed = [*reasons[:at], (other, turned), *reasons[at + 1:]]
                        self.assertIs(shows_divided(exchange, places, changed), is_ring(exchange.divide(*other), turned))
                    found += len(row) > 2
        self.assertGreater(found, 2)

    def test_reasons_left_out_put_in_twice_and_exchanged(self):
        for exchange in (pairs("/a", "/b"), triple(), ringed()):
            places, reasons = fewest_divided(exchange)
            for at, reason in enumerate(reasons):
                self.wrong(exchange, places, reasons[:at] + reasons[at + 1:])
                self.wrong(exchange, places, reasons[:at] + [reason] + reasons[at:])
                for other in range(at):
                    changed = list(reasons)
                    changed[at], changed[other] = changed[other], changed[at]
                    self.wrong(exchange, places, changed)
            self.wrong(exchange, places, reasons + reasons[:1])
            self.wrong(exchange, places, [*reasons, (places, reasons[0][1])])
            self.wrong(exchange, places, [])
        self.wrong(chain(), (), [((), ring(ringed()))])

    def test_kinds_of_the_reasons(self):
        exchange = pairs("/a", "/b")
        places, reasons = fewest_divided(exchange)
        self.wrong(exchange, places, tuple(reasons))
        self.wrong(exchange, places, dict(reasons))
        for at, (other, row) in enumerate(reasons):
            wrong = [[other, row], (list(other), row), (row, other), (other, row, None), (other,), (), None, True, other, row, (None, row), ("", row)]
            if other:
                wrong += [(tuple(map(Place.read, other)), row), (other + other[-1:], row), (other[:-1], row)]
            for value in wrong:
                self.wrong(exchange, places, [*reasons[:at], value, *reasons[at + 1:]])

    def test_other_places(self):
        exchange = pairs("/a", "/b")
        places, reasons = fewest_divided(exchange)
        for other in tuples(candidates(exchange)):
            if other != places:
                self.wrong(exchange, other, reasons)
        for other in [list(places), (Place("a"), Place("b")), ("/a", Place("b")), places[::-1], places + places, ("/a", "/a", "/b"), ("/a", "/b", "/z"),
                      ("/a", "/x"), ("a", "b"), ("/a/", "/b"), "/a", {"/a": "/b"}, (None, None), (True, False), ("/a", ["/b"]), {}]:
            self.wrong(exchange, other, reasons)

    def test_places_that_do_but_are_not_the_first_or_too_many(self):
        exchange = ringed()
        places, reasons = fewest_divided(exchange)
        self.same([places, candidates(exchange)], [("/p",), ("/p", "/p/q")])
        self.wrong(exchange, ("/p/q",), reasons)
        self.wrong(exchange, ("/p/q",), [*reasons, (("/p",), None)])
        self.wrong(exchange, ("/p/q",), [*reasons, (("/p",), reasons[0][1])])
        self.wrong(exchange, ("/p", "/p/q"), reasons)
        self.wrong(exchange, (), [])
        self.wrong(exchange, (), reasons)

    def test_values_of_all_kinds(self):
        for exchange in (ringed(), pairs("/a", "/b"), chain()):
            places, reasons = fewest_divided(exchange)
            for value in values(exchange):
                if value != places or type(value) is not tuple:
                    self.wrong(exchange, value, reasons)
                if value != reasons or type(value) is not list:
                    self.wrong(exchange, places, value)
                self.wrong(exchange, value, value)


if __name__ == "__main__":
    unittest.main()
