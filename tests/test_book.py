import unittest
from itertools import permutations

from helpers import Case, same, values
from nearestsays.book import Book, is_book
from nearestsays.errors import BadStanding, TooMany
from nearestsays.exchange import Exchange, unlike
from nearestsays.places import Place
from nearestsays.plans import Plan
from nearestsays.standings import right_standings
from nearestsays.tables import Table
from small import few_steps, nested, ringed, sets_of, third_places, wide
from test_exchange import of_kinds, plain, two
from test_plans import ALIKE, chain


def alike():
    return plain(*ALIKE)


def free(many):
    """Rows that no sentence binds: each set of them is a right standing."""
    return {f"/f{number}": "x" for number in range(10, 10 + many)}


def searched(exchange):
    """The rows of the book, found among all sets of steps by what all places are told."""
    right = {done for done in sets_of(exchange) if not third_places(exchange, done)}
    comes = {
        done: tuple(number for number in range(len(exchange)) if number not in done and tuple(sorted((*done, number))) in right)
        for done in right
    }
    reached = [()]
    for done in reached:
        reached += sorted({tuple(sorted((*done, number))) for number in comes[done]} - set(reached))
    walks = [row for row in permutations(range(len(exchange))) if all(tuple(sorted(row[:at])) in right for at in range(len(row) + 1))]
    rows = []
    for done in sorted(reached, key=lambda standing: (len(standing), standing)):
        first = next((row for row in walks if tuple(sorted(row[:len(done)])) == done), ())
        rows.append((done, comes[done], sum(row[:len(done)] == first[:len(done)] for row in walks)))
    return tuple(rows), walks


def some_books():
    for columns, seed, most in (("r", 200, 5), ("rw", 201, 5), ("rwz", 202, 4)):
        yield from few_steps(seed, 45, most, columns, 5)
    yield from traps()
    yield crosswise()


def trap():
    """Two columns: when the first step is done first, none of the others may come."""
    return two({"/a": {"r": "y"}, "/a/a": {"r": "y", "w": "x"}, "/a/a/b": {"w": "y"}}, {"/a/a/b": {"r": "y"}})


def traps():
    """Exchanges with standings that are stuck, though the empty one is not."""
    yield trap()
    yield two({"/a": {"r": "y"}, "/a/a": {"r": "y", "w": "x"}, "/a/a/b": {"w": "y"}}, {"/a": {"w": "y"}, "/a/a": {"w": "y"}, "/a/a/b": {"r": "y"}})
    yield two({"/a": {"r": "y", "w": "x"}, "/a/a": {"r": "y", "w": "x"}, "/a/a/b": {"r": "x"}, "/a/b": {"w": "x"}},
              {"/a": {"r": "y", "w": "y"}, "/a/a": {"r": "x"}, "/a/a/b": {"w": "x"}})


def crosswise():
    """The rows of `ringed` at places of the small tree."""
    return wide("rw", {"/a": "r", "/a/b": "r"}, {"/a": "w", "/a/b": "w"})


class Rows(Case):
    def test_the_example(self):
        book = Book(alike())
        self.same([book.total, len(book), book.rows[0], list(book.walks())], [4, 7, ((), (0, 1, 2), 4), [(0, 2, 1), (1, 2, 0), (2, 0, 1), (2, 1, 0)]])
        self.same(book.rows, (
            ((), (0, 1, 2), 4), ((0,), (2,), 1), ((1,), (2,), 1), ((2,), (0, 1), 2), ((0, 2), (1,), 1), ((1, 2), (0,), 1), ((0, 1, 2), (), 1),
        ))
        self.same([Book(ringed()).rows, Book(ringed()).is_stuck(())], [(((), (), 0),), True])

    def test_against_a_search_through_all_sets(self):
        stuck = divided = 0
        for exchange in some_books():
            rows, walks = searched(exchange)
            book = Book(exchange)
            self.same(book.rows, rows)
            self.same([book.total, len(book)], [len(walks), len(rows)])
            self.same(list(book.walks()), walks)
            self.same([book.is_stuck(done) for done, _, _ in rows], [ways == 0 for _, _, ways in rows])
            self.assertIs(is_book(exchange, rows), True)
            stuck += any(ways == 0 for _, _, ways in rows)
            divided += len(exchange.divided) > 0
        self.assertGreater(stuck, 2)
        self.assertGreater(divided, 20)

    def test_no_steps(self):
        for exchange in (plain({}, {}), plain({"/a": "x"}, {"/a": "x"}), two({}, {})):
            book = Book(exchange=exchange)
            self.same([book.rows, book.total, len(book), list(book.walks()), book.is_stuck(())], [(((), (), 1),), 1, 1, [()], False])

    def test_by_length_then_ascending_with_more_than_ten_steps(self):
        places = ["/a", *nested(8, "/a")[:7], *nested(4, "/b")[:3]]
        exchange = of_kinds({place: "new" for place in places})
        self.same(len(exchange), 11)
        rows = Book(exchange).rows
        found = [standing for standing, _, _ in rows]
        self.assertEqual(found, sorted(found, key=lambda standing: (len(standing), standing)))
        self.same([len(found), found[:5]], [9 * 4, [(), (7,), (10,), (6, 7), (7, 10)]])
        self.assertEqual([comes for _, comes, _ in rows][:3], [(7, 10), (6, 10), (7, 9)])
        self.same(rows[0][2], 165)

    def test_eleven_free_steps(self):
        book = Book(plain({}, free(10)))
        self.same([len(book), book.total, book.rows[-1], book.rows[1]], [1024, 3628800, (tuple(range(10)), (), 1), ((0,), tuple(range(1, 10)), 362880)])
        walks = book.walks()
        self.same([next(walks) for _ in range(3)], [tuple(range(10)), (*range(8), 9, 8), (*range(7), 8, 7, 9)])

    def test_two_thousand_rows_and_more(self):
        # 5 * 5 * 5 * 16 rows: three rows with two below each, and four free ones
        forks = {place: "old" for start in ("/x", "/y", "/z") for place in (start, start + "/a", start + "/b")}
        exchange = of_kinds({**forks, **{place: "new" for place in free(4)}})
        self.same(len(Book(exchange)), 2000)
        self.same(Book.MOST, 2000)
        more = of_kinds({**forks, **{place: "new" for place in free(4)}, "/x/c": "old"})
        self.refused(TooMany, {"most": 2000}, Book, more)
        self.same(right_standings(more), 3600)
        for many in (11, 24, 40):
            self.refused(TooMany, {"most": 2000}, Book, plain({}, free(many)))
            self.assertIs(is_book(plain({}, free(many)), ()), False)
        just = of_kinds({"/a": "old", **{f"/a/{place}": "old" for place in range(10, 20)}, "/b": "old", "/b/c": "turned"})
        self.refused(TooMany, {"most": 2000}, Book, just)

    def test_one_row_more_than_two_thousand(self):
        # The 2,000 standings behind the taking of the root, and the one ahead of it.
        forks = {place: "old" for start in ("/x", "/y", "/z") for place in (start, start + "/a", start + "/b")}
        exchange = of_kinds({"/": "old", **forks, **{place: "old" for place in free(4)}})
        self.same(right_standings(exchange), 2001)
        self.refused(TooMany, {"most": 2000}, Book, exchange)
        self.assertIs(is_book(exchange, ()), False)

    def test_the_book_stays(self):
        exchange = alike()
        book = Book(exchange)
        rows = book.rows
        book.exchange.first_copy().put("/z", r="new")
        walks = book.walks()
        next(walks)
        list(book.walks())
        self.same([book.rows, len(book), next(walks)], [rows, 7, (1, 2, 0)])
        for name in ("rows", "exchange", "total"):
            with self.assertRaises(AttributeError):
                setattr(book, name, None)
        self.assertEqual(book.exchange, alike())


class Asked(Case):
    def test_standings_of_the_book(self):
        book = Book(alike())
        inside = [(), (0,), (1,), (2,), (0, 2), (1, 2), (0, 1, 2)]
        for standing in sets_of(alike()):
            self.assertIs(standing in book, standing in inside)
            if standing in inside:
                self.assertIs(book.is_stuck(standing=standing), False)

    def test_a_standing_that_no_steps_lead_to(self):
        # Both together are right, but neither alone.
        self.assertIs((0, 1) in Book(ringed()), False)
        self.refused(BadStanding, {"value": (0, 1)}, Book(ringed()).is_stuck, (0, 1))

    def test_values_of_all_kinds(self):
        book = Book(alike())
        wrong = [[], [0], [0, 2], (True,), (False,), (0, True, 2), (0, 1), (2, 0), (0, 0), (3,), (-1,), (0, 1, 2, 3), "0", ("0",), ((0,),), (None,), (1.0,),
                 {0: True}, {}, book, Plan(alike(), [0]), Place("s"), 0, 1, None, True, False]
        for value in [*wrong, *(value for value in values(alike()) if type(value) is not tuple or value not in ((), (0,)))]:
            self.assertIs(value in book, False)
            with self.assertRaises(BadStanding) as caught:
                book.is_stuck(value)
            self.assertIs(caught.exception.value, value)

    def test_equality(self):
        self.assertTrue(Book(alike()) == Book(alike()))
        self.assertFalse(Book(alike()) != Book(alike()))
        self.assertFalse(Book(alike()) == Book(chain()))
        self.assertFalse(Book(plain({}, {"/a": "x"})) == Book(plain({}, {"/a": "y"})))
        for value in values(alike()):
            self.assertIs(Book(alike()) == value, False)
        self.assertFalse(Book(alike()) == Book(alike()).rows)


class Walks(Case):
    def test_each_one_is_right_and_whole(self):
        seen = 0
        for exchange in some_books():
            book = Book(exchange)
            found = list(book.walks())
            self.same([len(found), found], [book.total, sorted(set(found))])
            for row in found[:10]:
                plan = Plan(exchange, row)
                self.same([type(row), plan.is_right, plan.is_whole], [tuple, True, True])
                seen += 1
        self.assertGreater(seen, 300)

    def test_none_if_the_empty_standing_is_stuck(self):
        for exchange in (ringed(), wide("rw", {"/p": "r", "/p/q": "r", "/z": "r"}, {"/p": "w", "/p/q": "w"})):
            book = Book(exchange)
            self.same([book.total, list(book.walks()), book.is_stuck(())], [0, [], True])
            self.assertTrue(all(ways == 0 for _, _, ways in book.rows))

    def test_standings_that_are_stuck_though_the_empty_one_is_not(self):
        self.same(Book(trap()).rows, (((), (0, 1), 1), ((0,), (), 0), ((1,), (2,), 1), ((1, 2), (0,), 1), ((0, 1, 2), (), 1)))
        self.same([list(Book(trap()).walks()), Book(trap()).is_stuck((0,)), Book(trap()).is_stuck(())], [[(1, 2, 0)], True, False])
        for exchange in traps():
            book = Book(exchange)
            self.assertGreater(book.total, 0)
            self.assertIn(0, [ways for _, _, ways in book.rows])
            self.same(list(book.walks()), searched(exchange)[1])

    def test_two_walks_at_the_same_time(self):
        book = Book(alike())
        one, other = book.walks(), book.walks()
        self.same([next(one), next(one), next(other)], [(0, 2, 1), (1, 2, 0), (0, 2, 1)])


class OneColumn(Case):
    def test_each_right_standing_is_in_the_book_and_none_is_stuck(self):
        more = 0
        for exchange in few_steps(204, 120, 6, "r", 6):
            book = Book(exchange)
            self.same(len(book), right_standings(exchange))
            for done in sets_of(exchange):
                self.assertIs(done in book, not third_places(exchange, done))
            self.assertFalse(any(book.is_stuck(done) for done, _, _ in book.rows))
            more += len(book) > len(Book(unlike(exchange)))
        self.assertGreater(more, 5)

    def test_several_columns_a_stuck_standing(self):
        self.same([Book(trap()).is_stuck((0,)), Book(ringed()).is_stuck(())], [True, True])
        found = [exchange for exchange in few_steps(205, 900, 5, "rw", 5) if any(Book(exchange).is_stuck(done) for done, _, _ in Book(exchange).rows)]
        self.assertGreater(len(found), 3)


class IsBook(Case):
    def test_the_rows_of_book(self):
        for exchange in (alike(), chain(), ringed(), plain({}, {}), plain({}, free(6)), plain(*ALIKE, divided=["/s"])):
            self.assertIs(is_book(exchange, Book(exchange).rows), True)
            self.assertIs(is_book(thing=Book(exchange).rows, exchange=exchange), True)

    def wrong(self, exchange, thing):
        self.assertIs(is_book(exchange, thing), False, f"{thing!r}")

    def test_rows_left_out_twice_and_exchanged(self):
        for exchange in (alike(), chain(), ringed()):
            rows = Book(exchange).rows
            for at in range(len(rows)):
                self.wrong(exchange, rows[:at] + rows[at + 1:])
                self.wrong(exchange, rows[:at + 1] + rows[at:])
                self.wrong(exchange, rows[:at])
                for other in range(at):
                    changed = list(rows)
                    changed[at], changed[other] = rows[other], rows[at]
                    self.wrong(exchange, tuple(changed))

    def test_lists_for_tuples(self):
        rows = Book(alike()).rows
        self.wrong(alike(), list(rows))
        for at, row in enumerate(rows):
            standing, comes, ways = row
            for changed in (list(row), (list(standing), comes, ways), (standing, list(comes), ways)):
                self.wrong(alike(), (*rows[:at], changed, *rows[at + 1:]))

    def test_one_thing_otherwise(self):
        for exchange in (alike(), chain()):
            rows = Book(exchange).rows
            for at, (standing, comes, ways) in enumerate(rows):
                others = [(standing, comes[:-1], ways)] if comes else []
                others += [(standing, comes[1:], ways)] if comes else []
                others += [(standing, (*comes, number), ways) for number in range(len(exchange) + 1)]
                others += [(standing, tuple(sorted((*comes, number))), ways) for number in range(len(exchange)) if number not in comes]
                others += [(standing, comes[::-1], ways)] if len(comes) > 1 else []
                others += [(standing, comes, ways + 1), (standing, comes, ways - 1), (standing, comes, str(ways)), (standing, comes, None)]
                others += [(standing, comes), (standing, comes, ways, ways), (comes, standing, ways) if comes != standing else (), (standing, standing, ways + 5)]
                for changed in others:
                    self.wrong(exchange, (*rows[:at], changed, *rows[at + 1:]))

    def test_a_bool_for_a_number(self):
        def spoiled(value):
            """The value with one 0 or 1 in it told by a bool, each one once."""
            if isinstance(value, tuple):
                for at, part in enumerate(value):
                    for other in spoiled(part):
                        yield (*value[:at], other, *value[at + 1:])
            elif value in (0, 1):
                yield bool(value)

        for exchange in (alike(), ringed(), plain({}, {})):
            found = list(spoiled(Book(exchange).rows))
            self.assertGreater(len(found), 0)
            for thing in found:
                self.wrong(exchange, thing)

    def test_the_rows_of_the_strict_standings_alone(self):
        exchange = alike()
        rows = Book(unlike(exchange)).rows
        self.same([len(rows), len(Book(exchange).rows)], [5, 7])
        self.assertIs(is_book(unlike(exchange), rows), True)
        self.wrong(exchange, rows)
        self.wrong(unlike(exchange), Book(exchange).rows)

    def test_another_book(self):
        self.wrong(chain(), Book(alike()).rows)
        self.wrong(alike(), Book(chain()).rows)
        # A right standing to which no steps lead is none of the book.
        self.wrong(ringed(), (((), (), 0), ((0, 1), (), 1)))

    def test_values_of_all_kinds(self):
        for exchange in (alike(), ringed(), plain({}, {})):
            for value in values(exchange):
                self.wrong(exchange, value)
                self.wrong(exchange, (value,))
                row = ((), (), value)
                self.assertIs(is_book(exchange, (row,)), same((row,), Book(exchange).rows))
            self.wrong(exchange, Book(exchange))

    def test_more_than_two_thousand_standings(self):
        exchange = plain({}, free(11))
        for thing in [(), (((), tuple(range(11)), 39916800),), Book(plain({}, free(10))).rows, None, []]:
            self.wrong(exchange, thing)


class Kinds(Case):
    def test_divided_rows(self):
        for exchange in (crosswise().divide("/a"), crosswise().divide("/a", "/a/b"), trap().divide("/a/a")):
            self.same(Book(exchange).rows, searched(exchange)[0])
            self.assertIs(Book(exchange).is_stuck(()), False)

    def test_the_exchange_is_not_changed(self):
        exchange = alike()
        Book(exchange)
        is_book(exchange, ())
        self.assertEqual(exchange, alike())
        self.same(vars(exchange).keys(), vars(alike()).keys())

    def test_forty_rows_of_three_columns(self):
        first = {place: {column: "x" for column in "rwz"} for place in ["/a", *nested(7, "/a"), *(f"/b{number}" for number in range(10, 41))]}
        second = {place: dict(cells, r="y") if place < "/b" else cells for place, cells in first.items()}
        exchange = Exchange(Table(["r", "w", "z"], first), Table(["r", "w", "z"], second))
        self.same([len(exchange), len(Book(exchange)), Book(exchange).total], [8, 256, 40320])


if __name__ == "__main__":
    unittest.main()
