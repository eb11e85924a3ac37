"""Room near 2,000 strict standings: the answers against those of a plain search through all of them."""

import unittest
from functools import cache
from random import Random

from helpers import Case
from nearestsays.errors import Ringed, TooMany
from nearestsays.exchange import Exchange
from nearestsays.plans import Plan
from nearestsays.rings import ring
from nearestsays.room import FEW, barred, least_room, room, shows_barred, within
from nearestsays.tables import Table
from test_exchange import of_kinds, plain
from test_room import free, swaps, two_thousand

MOST = 2000


class Search:
    """All strict standings of an exchange, sought one after another, and how many rows stand at each one."""

    def __init__(self, exchange):
        self.exchange = exchange
        self.steps = range(len(exchange))
        self.whole = tuple(self.steps)
        self.rows = {(): len(exchange.first_copy())}
        # Those with fewer steps come first.
        found = [()]
        for done in found:
            for number in self.free(done):
                more = self.more(done, number)
                if more not in self.rows:
                    self.rows[more] = self.rows[done] + {"put": 1, "take": -1, "edit": 0}[exchange.steps[number].word]
                    found.append(more)
            if len(found) > MOST:
                break
        self.is_too_many = len(found) > MOST
        self.nexts = {} if self.is_too_many else {done: [self.more(done, number) for number in self.free(done)] for done in found}
        # The least room of a way from each standing to the whole one.
        self.rooms = {}
        for done in reversed(list(self.nexts)):
            self.rooms[done] = max(self.rows[done], min([self.rooms[more] for more in self.nexts[done]], default=0))

    def more(self, done, number):
        return tuple(sorted((*done, number)))

    def free(self, done):
        held = {behind for ahead, behind, _, _ in self.exchange.sentences if ahead not in done}
        return [number for number in self.steps if number not in done and number not in held]

    def within(self, most):
        """The numbers of the first order with at most this room."""
        if self.rooms[()] > most:
            return None
        row, done = [], ()
        while done != self.whole:
            row.append(next(number for number in self.free(done) if self.rooms[self.more(done, number)] <= most))
            done = self.more(done, row[-1])
        return tuple(row)

    def closure(self, starts, most):
        """All that strict plans with at most this room reach from these standings."""
        found = {done: True for done in starts if self.rows[done] <= most}
        row = list(found)
        for done in row:
            fresh = [more for more in self.nexts[done] if self.rows[more] <= most and more not in found]
            found.update(dict.fromkeys(fresh, True))
            row += fresh
        return sorted(found, key=lambda done: (len(done), done))

    def barred(self, most):
        found = tuple(self.closure([()], most))
        return None if self.whole in found else found

    def shows(self, most, thing):
        """Whether a list or tuple of tuples of numbers shows that no order has at most this room."""
        held = set(thing)
        if len(held) < len(thing) or self.whole in held or not all(done in self.nexts and self.rows[done] <= most for done in held):
            return False
        if self.rows[()] <= most and () not in held:
            return False
        return all(more in held for done in held for more in self.nexts[done] if self.rows[more] <= most)


def ten():
    return plain({}, {f"/{sign}": "x" for sign in "abcdefghij"})


def eleven():
    return plain({}, {f"/{sign}": "x" for sign in "abcdefghijk"})


def sixteen():
    """Sixteen rows that are taken: 2,000 strict standings."""
    places = ["/a", "/b", "/c", "/d"] + ["/" + "/".join(sign * deep) for sign in "efg" for deep in range(1, 5)]
    return plain({place: place.replace("/", "") for place in places}, {})


def hills():
    """Hills: two or three rows that are put ahead of a row to take, and some beside them."""
    kinds = {"/a": "old", "/a/x": "new", "/a/y": "new", "/b": "old", "/b/x": "new", "/b/y": "new", "/b/z": "new"}
    kinds.update({"/c": "new", "/e": "old", "/e/x": "new", "/e/x/z": "new", "/f": "old", "/f/g": "old"})
    return of_kinds(kinds)


def crossed():
    """Three columns; the sentences go in circles."""
    first = {"/a": "r", "/b": "rw", "/b/c": "w", "/b/d": "z", "/e": "rz", "/f": "w", "/g": "z"}
    second = {"/a/x": "r", "/b/c/x": "wr", "/b/d/x": "zr", "/b/y": "w", "/e/x": "r", "/e/x/y": "rz", "/f/x": "w", "/g/x": "z"}
    tables = [Table(list("rwz"), {place: dict.fromkeys(rows[place], f"{place[-1]}{at}") for place in rows}) for at, rows in enumerate((first, second))]
    return Exchange(*tables)


def cells(random, columns):
    found = {column: f"v{random.randint(0, 20)}" for column in columns if random.random() < 0.7}
    return found or {columns[0]: "v"}


def near_the_limit(seed, columns, many):
    """Exchanges with a thousand strict standings and more, at most 2,000, at places of trees of several kinds."""
    random = Random(seed)
    found = []
    while len(found) < many:
        signs, deep, puts = random.choice(["ab", "abc", "abcdefgh"]), random.randint(1, 5), random.choice([0.2, 0.5, 0.5, 0.8])
        tables = [{}, {}]
        for _ in range(random.randint(11, 20)):
            place = "/" + "/".join(random.choice(signs) for _ in range(random.randint(1, deep)))
            if random.random() < 0.15:
                tables[0][place], tables[1][place] = cells(random, columns), cells(random, columns)
            elif random.random() < puts:
                tables[0].pop(place, None)
                tables[1][place] = cells(random, columns)
            else:
                tables[1].pop(place, None)
                tables[0][place] = cells(random, columns)
        exchange = Exchange(*(Table(list(columns), rows) for rows in tables))
        if ring(exchange) is None:
            search = Search(exchange)
            if not search.is_too_many and len(search.rows) >= 1000:
                found.append(search)
    return found


@cache
def inputs():
    """Searches of all these exchanges."""
    found = [Search(exchange) for make in (ten, sixteen, hills, crossed, two_thousand) for exchange in (make(), make().back())]
    for seed, columns in ((501, "r"), (502, "rw"), (503, "rwz")):
        found += near_the_limit(seed, columns, 8)
    return found


class NearTheLimit(Case):
    def mosts(self, search):
        """Rooms about the least one, about the rows at first, and wide ones."""
        least, first = search.rooms[()], search.rows[()]
        found = {0, first - 1, first, first + 1, first + 3, least - 3, least - 2, least - 1, least, least + 1, 80}
        return sorted(most for most in found if most >= 0)

    def test_the_inputs_are_near_the_limit(self):
        self.same([len(search.rows) for search in inputs()[:4]], [1024, 1024, 2000, 2000])
        for search in inputs():
            self.assertFalse(search.is_too_many)
            self.assertGreater(len(search.rows), 900)
        # Some have sentences and some have none; in some the first order is not the one with the least room.
        self.assertTrue(any(search.exchange.sentences for search in inputs()))
        self.assertTrue(any(search.within(80) != search.within(search.rooms[()]) for search in inputs()))
        long = [len(search.barred(search.rooms[()] - less)) for search in inputs() for less in (1, 2, 3)]
        self.assertGreater(sum(many > FEW for many in long), 10)
        self.assertGreater(sum(1 < many <= FEW for many in long), 5)

    def test_least_room(self):
        for search in inputs():
            least = search.rooms[()]
            self.same(least_room(search.exchange), (least, search.within(least)))
            self.same(room(Plan(search.exchange, search.within(least))), least)

    def test_within_and_barred(self):
        for search in inputs():
            for most in self.mosts(search):
                self.same(within(search.exchange, most), search.within(most))
                self.same(barred(search.exchange, most), search.barred(most))

    def test_ways_that_begin_well_and_lead_nowhere(self):
        # With a row more than at first, the way that is found first goes on too high.
        for kinds in (
            {"/a": "new", "/a/a/a": "old", "/a/b": "new", "/b": "old", "/b/a": "old", "/b/b": "new", "/b/b/b/a": "new"},
            {"/a": "new", "/a/a": "new", "/a/b": "old", "/b": "new", "/b/a": "old", "/b/a/b": "old", "/b/b": "new"},
            {"/a": "old", "/a/a": "new", "/a/b": "new", "/b/a": "new", "/b/a/b/b": "old", "/b/b": "new", "/b/b/a": "old", "/b/b/a/a": "old", "/b/b/b/b": "new"},
        ):
            search = Search(of_kinds(kinds))
            least = search.rooms[()]
            self.same(least_room(search.exchange), (least, search.within(least)))
            for most in range(least + 3):
                self.same(within(search.exchange, most), search.within(most))
                self.same(barred(search.exchange, most), search.barred(most))

    def test_ten_rows_and_three(self):
        found = barred(ten(), 3)
        self.same([len(found), found[:2], found[-1]], [176, ((), (0,)), (7, 8, 9)])
        self.same([within(ten(), 9), len(barred(ten(), 9)), barred(ten().back(), 9)], [None, 1023, ()])


class Shown(Case):
    def things(self, random, search, most):
        """What barred tells, turned round, shuffled, with one left out and with one more."""
        thing = search.barred(most) or ()
        shuffled = random.sample(thing, len(thing))
        for value in (thing, list(thing), thing[::-1], shuffled):
            yield value
        if thing:
            at = random.randrange(len(thing))
            yield thing[:at] + thing[at + 1:]
            yield shuffled[1:]
            yield (*thing, thing[at])
        all_of_them = list(search.nexts)
        for many in (1, 1, 3):
            starts = random.sample(all_of_them, many)
            yield (*thing, *(done for done in starts if done not in thing))
            more = search.closure([(), *starts], most)
            yield more
            yield more[::-1]
            yield more[:-1]
            yield search.closure(starts, most)
        yield (*thing, search.whole)
        yield all_of_them[:-1]
        yield all_of_them

    def test_against_the_search(self):
        random = Random(510)
        answers = {(answer, is_long): 0 for answer in (True, False) for is_long in (True, False)}
        for search in inputs():
            least, first = search.rooms[()], search.rows[()]
            for most in {least - 1, least - 2, first - 1, first, least, max(first, least - 4)}:
                if most >= 0:
                    for thing in self.things(random, search, most):
                        answer = search.shows(most, thing)
                        self.assertIs(shows_barred(search.exchange, most, thing), answer)
                        answers[answer, len(thing) > FEW] += 1
        self.assertGreater(min(answers.values()), 50)

    def test_values_that_are_no_standings_among_many(self):
        for exchange, most in ((ten(), 3), (ten(), 5), (swaps(6), 8), (hills(), 8)):
            thing = barred(exchange, most) or tuple(Search(exchange).closure([()], most))
            for at in (0, 1, len(thing) // 2, len(thing) - 1):
                good = thing[at]
                for bad in (list(good), (*good, len(exchange)), (*good, -1), (-1, *good), (*good, *good[-1:]), good[::-1], (*good, True), (*good, None),
                            (*good, "0"), (*good, (0,)), (*good, [0]), (*good, 10 ** 30), dict.fromkeys(good, True), str(good), None, 0, exchange, exchange.steps[:1]):
                    if bad != good:
                        self.assertIs(shows_barred(exchange, most, (*thing[:at], bad, *thing[at + 1:])), False)
                        self.assertIs(shows_barred(exchange, most, [*thing[:at], bad, *thing[at + 1:]]), False)

    def test_a_bool_for_a_number_among_many(self):
        thing = barred(ten(), 4)
        self.assertGreater(len(thing), FEW)
        self.assertIs(shows_barred(ten(), 4, thing), True)
        for at, done in enumerate(thing):
            if done[:1] in ((0,), (1,)) and at % 10 == 0:
                changed = (*thing[:at], (bool(done[0]), *done[1:]), *thing[at + 1:])
                self.assertIs(shows_barred(ten(), 4, changed), False)

    def test_many_where_an_order_has_the_room(self):
        search = Search(sixteen())
        rest = [done for done in search.nexts if done != search.whole]
        self.assertGreater(len(rest), FEW)
        self.assertIs(shows_barred(sixteen(), 16, rest), False)
        self.assertIs(shows_barred(sixteen(), 15, rest), False)
        self.assertIs(shows_barred(sixteen(), 15, ()), True)

    def test_many_without_the_first_one(self):
        # Five rows are taken and five are put, so the first table and the last one have too many rows.
        exchange = of_kinds({f"/{sign}": "old" if sign < "f" else "new" for sign in "abcdefghij"})
        search = Search(exchange)
        thing = [done for done in search.nexts if search.rows[done] <= 4]
        self.same([search.rows[()], search.rows[search.whole], () in thing, len(thing)], [5, 5, False, 386])
        self.assertGreater(len(thing), FEW)
        for value, answer in ((thing, True), (tuple(thing[::-1]), True), (thing[:-1], False), ([*thing, ()], False), (thing[5:], True), (thing[6:], True)):
            self.assertIs(search.shows(4, value), answer)
            self.assertIs(shows_barred(exchange, 4, value), answer)

    def test_many_of_very_many(self):
        exchange = free(40)
        thing = [(), *((number,) for number in range(40)), *((number, later) for later in range(40) for number in range(later))]
        for most in (20, 39):
            self.assertIs(shows_barred(exchange, most, thing), False)

    def test_many_of_more_than_two_thousand_strict_standings(self):
        exchange = free(40)
        pairs = [(number, later) for later in range(40) for number in range(later)]
        thing = [(), *((number,) for number in range(40)), *pairs]
        self.assertGreater(len(thing), FEW)
        for value, answer in ((thing, True), (tuple(thing[::-1]), True), (thing[:-1], False), (thing[1:], False), ([*thing, (0, 1, 2)], False)):
            self.assertIs(shows_barred(exchange, 2, value), answer)
        self.assertIs(shows_barred(exchange, 3, thing), False)
        self.assertIs(shows_barred(exchange, 1, thing), False)


class TooManyStandings(Case):
    def refused_thrice(self, exchange):
        self.refused(TooMany, {"most": MOST}, least_room, exchange)
        for most in (0, 3, len(exchange.first_copy()), 80):
            self.refused(TooMany, {"most": MOST}, within, exchange, most)
            self.refused(TooMany, {"most": MOST}, barred, exchange, most)

    def test_eleven_rows(self):
        self.refused_thrice(eleven())
        self.refused_thrice(eleven().back())

    def test_just_as_the_search_tells(self):
        random = Random(520)
        many = few = 0
        for columns in ("r", "rw", "rwz"):
            for _ in range(120):
                signs = random.choice(["a", "ab", "abc", "abcdefgh"])
                tables = [{}, {}]
                for _ in range(random.randint(9, 36)):
                    place = "/" + "/".join(random.choice(signs) for _ in range(random.randint(0, 6)))
                    if place != "/" or len(tables[0]) % 2:
                        tables[random.randint(0, 1)][place] = cells(random, columns)
                exchange = Exchange(*(Table(list(columns), rows) for rows in tables))
                if ring(exchange) is not None:
                    for call, more in ((least_room, ()), (within, (3,)), (barred, (3,))):
                        with self.assertRaises(Ringed):
                            call(exchange, *more)
                elif Search(exchange).is_too_many:
                    self.refused_thrice(exchange)
                    many += 1
                else:
                    least_room(exchange), within(exchange, 2), barred(exchange, 2)
                    few += 1
        self.assertGreater(min(many, few), 30)


if __name__ == "__main__":
    unittest.main()
