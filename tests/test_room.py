import unittest
from math import factorial
from random import Random

from helpers import Case, values
from nearestsays.errors import Divided, Ringed, TooMany
from nearestsays.exchange import Exchange
from nearestsays.orders import least_order
from nearestsays.places import Place
from nearestsays.plans import Plan
from nearestsays.rings import is_ring
from nearestsays.room import barred, least_room, room, shows_barred, within
from nearestsays.tables import Table
from small import few_steps, forty_with_a_ring, is_closed, nested, orders_of, ringed, sets_of, some_plans, wide
from test_exchange import of_kinds, plain, two
from test_plans import ALIKE, chain


def rows_then(exchange, done):
    """How many rows stand when these steps are done, counted by the rows of the two tables."""
    first, second = exchange.first_copy(), exchange.second_copy()
    places = {exchange.steps[number].place for number in done}
    return sum(place in (second if place in places else first) for place in exchange.places)


def room_of(exchange, numbers):
    return max(rows_then(exchange, numbers[:moment]) for moment in range(len(numbers) + 1))


def reached(exchange, most):
    """The strict standings to which strict plans with this room lead, sought one after another."""
    found = [()] if rows_then(exchange, ()) <= most else []
    for done in found:
        for number in range(len(exchange)):
            more = tuple(sorted({*done, number}))
            if more not in found and is_closed(exchange, more) and rows_then(exchange, more) <= most:
                found.append(more)
    return tuple(sorted(found, key=lambda standing: (len(standing), standing)))


def undivided(seed, many, most, columns, spots=5):
    """Small exchanges without divided places."""
    return [Exchange(exchange.first_copy(), exchange.second_copy()) for exchange in few_steps(seed, many, most, columns, spots)]


def small_ones():
    """Small exchanges without divided places and without rings, and all their orders."""
    for columns, seed in (("r", 210), ("rw", 211), ("rwz", 212)):
        for exchange in undivided(seed, 70, 5, columns):
            found = orders_of(exchange)
            if found:
                yield exchange, found


def swaps(many):
    """Rows that are put below others that are taken: each putting must come ahead of the taking."""
    first = {f"/a{number}": "x" for number in range(many)}
    return plain(first, {f"{place}/b": "y" for place in first})


def free(many):
    return plain({}, {f"/f{number}": "x" for number in range(10, 10 + many)})


def two_thousand():
    """Just 2,000 strict standings: three rows with two below each, and four free ones."""
    forks = {place: "old" for start in ("/x", "/y", "/z") for place in (start, start + "/a", start + "/b")}
    return of_kinds({**forks, **{f"/f{number}": "new" for number in range(4)}})


class Room(Case):
    def test_the_greatest_number_of_rows(self):
        self.same([room(Plan(chain(), row)) for row in ((), (1,), (1, 0), (1, 0, 3, 2), (1, 3, 0, 2), (0, 2), (0, 2, 1, 3), (2, 1, 0, 3))],
                  [2, 3, 3, 3, 4, 2, 2, 2])
        self.same(room(plan=Plan(chain(), [1])), 3)

    def test_the_first_moment_counts(self):
        exchange = of_kinds({"/a": "old", "/b": "old", "/c": "old", "/d": "new"})
        self.same([room(Plan(exchange)), room(Plan(exchange, [0])), room(Plan(exchange, [0, 1, 2])), room(Plan(exchange, [0, 1, 2, 3]))], [3, 3, 3, 3])
        self.same(room(Plan(exchange, [3])), 4)

    def test_no_steps(self):
        self.same([room(Plan(plain({}, {}))), room(Plan(plain({"/a": "x"}, {"/a": "x"})))], [0, 1])

    def test_edits_and_kept_rows(self):
        exchange = two({"/a": {"r": "1"}, "/k": {"r": "2"}}, {"/a": {"w": "1"}, "/k": {"r": "2"}})
        self.same(room(Plan(exchange, [0])), 2)

    def test_against_the_tables_on_the_way(self):
        random = Random(213)
        for columns in ("r", "rw"):
            for exchange in undivided(213, 120, 6, columns):
                for plan in some_plans(exchange, random):
                    self.same(room(plan), max(len(table) for table in plan.tables()))
                    if plan.is_whole:
                        self.same(room(plan.back()), room(plan))

    def test_divided_places(self):
        for divided, place in [(["/c", "/a"], "/a"), (["/c"], "/c")]:
            exchange = plain({"/a": "1", "/b": "2"}, {"/a": "3", "/c": "4"}, divided)
            for numbers in ((), (0,), (2, 1, 0)):
                self.refused(Divided, {"place": place}, room, Plan(exchange, numbers))


class LeastRoom(Case):
    def test_the_example(self):
        self.same([least_room(chain()), within(chain(), 2), barred(chain(), 2)], [(3, (1, 0, 3, 2)), None, ((),)])

    def test_against_all_orders(self):
        seen = 0
        for exchange, found in small_ones():
            rooms = [room_of(exchange, row) for row in found]
            self.same(least_room(exchange=exchange), (min(rooms), found[rooms.index(min(rooms))]))
            self.same(rooms[0], room(least_order(exchange)))
            seen += rooms[0] > min(rooms)
        self.assertGreater(seen, 5)

    def test_within_and_barred_against_all_orders(self):
        shut = 0
        for exchange, found in small_ones():
            rooms = [room_of(exchange, row) for row in found]
            for most in range(max(rooms) + 2):
                fit = [row for row, many in zip(found, rooms) if many <= most]
                self.same(within(exchange, most), fit[0] if fit else None)
                wanted = None if fit else reached(exchange, most)
                self.same(barred(exchange, most), wanted)
                self.assertIs(shows_barred(exchange, most, wanted), wanted is not None)
                shut += wanted is not None
            self.same([within(exchange, 80), barred(exchange, 80)], [found[0], None])
        self.assertGreater(shut, 100)

    def test_no_steps(self):
        self.same([least_room(plain({}, {})), within(plain({}, {}), 0), barred(plain({}, {}), 0)], [(0, ()), (), None])
        same = plain({"/a": "x", "/b": "y"}, {"/a": "x", "/b": "y"})
        self.same([least_room(same), within(same, 1), within(most=2, exchange=same), barred(same, 1), barred(most=2, exchange=same)], [(2, ()), None, (), (), None])

    def test_more_rows_at_first(self):
        self.same([barred(chain(), most) for most in (0, 1)], [(), ()])
        self.same([barred(swaps(3), most) for most in (2, 3, 4)], [(), ((),), None])

    def test_one_room_more_at_a_time(self):
        self.same(least_room(swaps(6)), (7, (1, 0, 3, 2, 5, 4, 7, 6, 9, 8, 11, 10)))
        self.same(least_order(swaps(6)).numbers, (1, 0, 3, 2, 5, 4, 7, 6, 9, 8, 11, 10))
        later = plain({"/a": "1", "/b": "2"}, {"/a/x": "3", "/b/x": "4", "/0": "5"})
        self.same([str(step) for step in later.steps], ["put /0", "take /a", "put /a/x", "take /b", "put /b/x"])
        self.same([least_room(later), within(later, 4)], [(3, (2, 1, 4, 3, 0)), (0, 2, 1, 4, 3)])

    def test_standings_with_ten_steps_and_more(self):
        exchange = of_kinds({place: "new" for place in ["/a", *nested(7, "/a"), *nested(3, "/b")]})
        self.same(len(exchange), 11)
        self.same(barred(exchange, 2), ((), (7,), (10,), (6, 7), (7, 10), (9, 10)))
        self.same(barred(swaps(6), 6), ((),))


class Refused(Case):
    def test_divided_then_ringed(self):
        for exchange in (forty_with_a_ring().divide("/a7"), ringed().divide("/p"), free(24).divide("/f12", "/f20")):
            for call, more in ((least_room, ()), (within, (3,)), (barred, (3,)), (shows_barred, (3, ())), (shows_barred, (3, None))):
                self.refused(Divided, {"place": exchange.divided[0]}, call, exchange, *more)

    def test_ringed_then_too_many(self):
        more = wide("rw", {"/p": "r", "/p/q": "r", **{f"/f{number}": "r" for number in range(20)}}, {"/p": "w", "/p/q": "w"})
        for exchange in (ringed(), forty_with_a_ring(), more):
            for call, rest in ((least_room, ()), (within, (3,)), (barred, (0,)), (barred, (80,)), (shows_barred, (0, ())), (shows_barred, (3, 7))):
                with self.assertRaises(Ringed) as caught:
                    call(exchange, *rest)
                self.assertIs(is_ring(exchange, caught.exception.ring), True)

    def test_two_thousand_strict_standings(self):
        exchange = two_thousand()
        self.same(sum(is_closed(exchange, done) for done in sets_of(exchange)), 2000)
        self.same([str(step) for step in exchange.steps][:5], ["put /f0", "put /f1", "put /f2", "put /f3", "take /x"])
        self.same([within(exchange, 8), barred(exchange, 8)], [None, ()])
        self.same(within(exchange, 13), tuple(range(13)))
        self.same(least_room(exchange), (9, (4, 0, 5, 1, 6, 2, 7, 3, 8, 9, 10, 11, 12)))

    def test_more_than_two_thousand(self):
        forks = {place: "old" for start in ("/x", "/y", "/z") for place in (start, start + "/a", start + "/b")}
        just_one_more = of_kinds({"/": "old", **forks, **{f"/f{number}": "old" for number in range(4)}})
        self.same(sum(is_closed(just_one_more, done) for done in sets_of(just_one_more)), 2001)
        for exchange in (just_one_more, free(11), free(40)):
            self.refused(TooMany, {"most": 2000}, least_room, exchange)
            for most in (0, 1, 2, 40, 80):
                self.refused(TooMany, {"most": 2000}, within, exchange, most)
                self.refused(TooMany, {"most": 2000}, barred, exchange, most)
        self.same([least_room(free(10))[0], within(free(10), 10), within(free(10), 9)], [10, tuple(range(10)), None])

    def test_shows_barred_of_many_standings(self):
        self.assertIs(shows_barred(free(40), 1, [(), *((number,) for number in range(40))]), True)
        self.assertIs(shows_barred(free(40), 1, [(), *((number,) for number in range(39))]), False)
        self.assertIs(shows_barred(free(40), 0, ((),)), True)


class Shown(Case):
    def wrong(self, exchange, most, thing):
        self.assertIs(shows_barred(exchange, most, thing), False, f"{most}, {thing!r}")

    def right(self, exchange, most, thing):
        self.assertIs(shows_barred(exchange, most, thing), True, f"{most}, {thing!r}")

    def barreds(self):
        for exchange, most in ((chain(), 2), (swaps(2), 2), (swaps(3), 3), (free(4), 2), (free(4), 3)):
            yield exchange, most, barred(exchange, most)

    def test_turned_round_and_as_a_list(self):
        for exchange, most, thing in self.barreds():
            for value in (thing, thing[::-1], list(thing), list(thing[::-1]), thing[1:] + thing[:1]):
                self.right(exchange, most, value)
            self.assertIs(shows_barred(thing=thing, most=most, exchange=exchange), True)

    def test_more_such_standings(self):
        # Behind the putting of /c the rows /a and /b can be taken; nothing leads there with one row.
        exchange = of_kinds({"/a": "old", "/a/b": "new", "/c": "new", "/c/d": "old"})
        first = exchange.first_copy()
        self.same([str(step) for step in exchange.steps], ["take /a", "put /a/b", "put /c", "take /c/d"])
        self.same([len(first), exchange.sentences], [2, ((1, 0, "r", "old/new"), (2, 3, "r", "new/old"))])
        self.same(barred(exchange, 2), ((),))
        for more in ([(0, 1)], [(2, 3)], [(0, 1), (2, 3)]):
            self.right(exchange, 2, [(), *more])
            self.right(exchange, 2, [*more, ()])
            self.wrong(exchange, 2, more)
        self.wrong(exchange, 2, [(), (0, 1), (0, 1, 2, 3)])
        self.wrong(exchange, 2, [(), (1,)])

    def test_one_left_out_twice_and_beyond_the_room(self):
        for exchange, most, thing in self.barreds():
            for at, standing in enumerate(thing):
                self.wrong(exchange, most, thing[:at] + thing[at + 1:])
                self.wrong(exchange, most, thing[:at + 1] + thing[at:])
                self.wrong(exchange, most, (*thing, standing))
                self.wrong(exchange, most, (*thing[:at], list(standing), *thing[at + 1:]))
            for done in sets_of(exchange):
                if done not in thing and (not is_closed(exchange, done) or rows_then(exchange, done) > most):
                    self.wrong(exchange, most, (*thing, done))
            self.wrong(exchange, most, (*thing, tuple(range(len(exchange)))))

    def test_another_room(self):
        self.wrong(free(4), 4, barred(free(4), 3))
        self.wrong(free(4), 2, barred(free(4), 3))
        self.wrong(free(4), 3, barred(free(4), 2))
        self.wrong(free(4), 4, tuple(done for done in sets_of(free(4)) if len(done) < 4))
        self.wrong(free(4), 4, tuple(sets_of(free(4))))
        self.wrong(chain(), 3, ((),))

    def test_a_first_table_with_more_rows(self):
        for thing in ((), []):
            self.right(chain(), 1, thing)
            self.right(chain(), 0, thing)
            self.wrong(chain(), 2, thing)
        self.wrong(chain(), 1, ((),))
        takes = of_kinds({"/a": "old", "/b": "old", "/c": "old", "/c/d": "old"})
        self.same([len(takes.first_copy()), within(takes, 4), barred(takes, 3)], [4, (0, 1, 2, 3), ()])
        self.right(takes, 2, ())
        # What is closed otherwise shows it, too; here each way on comes to the whole standing.
        self.wrong(takes, 2, [(0, 1, 2)])
        self.wrong(takes, 2, [(0, 1)])
        both = of_kinds({"/a": "old", "/a/b": "new", "/c": "old", "/c/d": "new", "/e": "new"})
        self.same([len(both.first_copy()), barred(both, 1)], [2, ()])
        for thing in ([], ()):
            self.right(both, 1, thing)
        ends = of_kinds({"/a": "old", "/b": "old", "/c": "new"})
        self.right(ends, 1, [])
        self.wrong(ends, 1, [(0,), (1,), (0, 1)])
        more = of_kinds({"/a": "old", "/b": "old", "/c": "new", "/d": "new"})
        self.right(more, 1, [(0,), (1,), (0, 1), (0, 1, 2), (0, 1, 3)])
        self.right(more, 1, [(0, 1), (0, 1, 2), (0, 1, 3)])
        self.right(more, 1, [(0, 1, 2)])
        self.wrong(more, 1, [(0,), (0, 1), (0, 1, 2)])
        self.wrong(more, 1, [(), (0,), (1,), (0, 1), (0, 1, 2), (0, 1, 3)])

    def test_no_steps(self):
        same = plain({"/a": "x"}, {"/a": "x"})
        self.right(same, 0, ())
        self.wrong(same, 0, ((),))
        self.wrong(same, 1, ())
        self.wrong(same, 1, ((),))

    def test_a_bool_for_a_number(self):
        for exchange, most in ((swaps(3), 4), (free(4), 2), (free(3), 2)):
            thing = barred(exchange, most) or ((), (1,))
            for at, standing in enumerate(thing):
                for spot, number in enumerate(standing):
                    if number in (0, 1):
                        changed = (*standing[:spot], bool(number), *standing[spot + 1:])
                        self.wrong(exchange, most, (*thing[:at], changed, *thing[at + 1:]))

    def test_values_of_all_kinds(self):
        for exchange, most, thing in self.barreds():
            for value in values(exchange):
                if value not in ((), ((),)) and value != list(thing):
                    self.wrong(exchange, most, value)
                if value not in thing:
                    self.wrong(exchange, most, (*thing, value))
            self.wrong(exchange, most, {standing: True for standing in thing})
            self.wrong(exchange, most, {at: standing for at, standing in enumerate(thing)})
            self.wrong(exchange, most, (*thing, Place("p")))
            self.wrong(exchange, most, Table(["r"]))


class Unchanged(Case):
    def test_the_exchange_and_the_thing_stay(self):
        exchange, thing = swaps(2), [()]
        least_room(exchange), within(exchange, 2), barred(exchange, 2), shows_barred(exchange, 2, thing)
        self.assertEqual(exchange, swaps(2))
        self.same(thing, [()])

    def test_many_orders_are_not_gone_through(self):
        exchange = of_kinds({f"/f{number}": "new" for number in range(10)})
        self.assertGreater(factorial(len(exchange)), 10 ** 6)
        self.same(least_room(exchange), (10, tuple(range(10))))

    def test_right_orders_that_are_not_strict_do_not_count(self):
        exchange = plain(*ALIKE)
        self.same([least_room(exchange), within(exchange, 2), barred(exchange, 2)], [(3, (0, 2, 1)), None, ((), (0,))])


if __name__ == "__main__":
    unittest.main()
