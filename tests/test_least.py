import unittest
from itertools import product
from random import Random

from helpers import Case, forty, rows_of
from nearestsays.errors import TooMany, UnlikeColumns
from nearestsays.least import alike, closest, least, needless, parted
from nearestsays.tables import Table

PLACES = ["/" + "/".join(names) for size in range(4) for names in product("ab", repeat=size)]


def two(rows):
    return Table(["r", "w"], rows)


def told_everywhere(table):
    """What a table tells at all places of a small tree."""
    return [(place, table(place)) for place in PLACES]


def some_table(random, columns=("w", "r"), answers="xy"):
    rows = {}
    for place in random.sample(PLACES, random.randint(0, 7)):
        cells = {column: random.choice(answers) for column in columns if random.random() < 0.7}
        if cells:
            rows[place] = cells
    return Table(columns, rows)


class Needless(Case):
    def test_chains(self):
        table = Table.plain("r", {"/": "a", "/b": "a", "/b/c": "a", "/b/c/d": "a"})
        self.same(needless(table), [("/b", "r"), ("/b/c", "r"), ("/b/c/d", "r")])
        self.same(rows_of(least(table)), {"/": {"r": "a"}})

    def test_only_the_nearest_cell_counts(self):
        table = Table.plain("r", {"/": "a", "/x": "b", "/x/y": "a"})
        self.same(needless(table), [])
        self.assertEqual(least(table), table)

    def test_the_nearest_cell_may_be_far_above(self):
        table = Table.plain("r", {"/": "a", "/a/b/c/d/e/f/g/h": "a", "/a/b/c": "b", "/z/z/z": "a"})
        self.same(needless(table), [("/z/z/z", "r")])

    def test_several_columns_in_their_order(self):
        table = Table(["w", "r"], {"/": {"r": "a", "w": "b"}, "/x": {"r": "a", "w": "b"}, "/x/y": {"r": "b", "w": "b"}, "/a": {"r": "a"}})
        self.same(needless(table), [("/a", "r"), ("/x", "w"), ("/x", "r"), ("/x/y", "w")])
        self.same(rows_of(least(table)), {"/": {"r": "a", "w": "b"}, "/x/y": {"r": "b"}})

    def test_a_cell_of_another_column_does_not_count(self):
        table = two({"/": {"r": "a"}, "/x": {"w": "a"}, "/x/y": {"r": "a"}})
        self.same(needless(table), [("/x/y", "r")])

    def test_the_root_is_never_needless(self):
        self.same(needless(Table.plain("r", {"/": "a"})), [])

    def test_no_rows(self):
        self.same(needless(Table(["r"])), [])
        self.assertEqual(least(Table(["r"])), Table(["r"]))

    def test_the_table_itself_is_not_changed(self):
        table = Table.plain("r", {"/": "a", "/b": "a"})
        made = least(table)
        self.same(table.places, ("/", "/b"))
        made.take("/")
        self.same(table.places, ("/", "/b"))

    def test_a_least_table_is_a_new_one(self):
        table = Table.plain("r", {"/": "a"})
        made = least(table)
        made.put("/", r="b")
        self.same(table("/"), ("a",))

    def test_the_least_table_tells_the_same_without_needless_cells(self):
        random = Random(1)
        for _ in range(300):
            table = some_table(random)
            made = least(table)
            self.same(told_everywhere(made), told_everywhere(table))
            self.same(needless(made), [])
            self.assertIs(alike(made, table), True)

    def test_tables_that_tell_the_same_have_one_least_table(self):
        random = Random(2)
        seen = {}
        for _ in range(1500):
            table = some_table(random, columns=("r",))
            told = str(told_everywhere(table))
            self.assertEqual(seen.setdefault(told, least(table)), least(table))


class Parted(Case):
    def test_the_first_place_and_there_the_first_column(self):
        one = Table(["w", "r"], {"/b": {"w": "x", "r": "x"}, "/c": {"r": "x"}})
        other = Table(["w", "r"], {"/b": {"w": "y", "r": "y"}})
        self.same(parted(one, other), ("/b", "w"))
        self.same(parted(other, one), ("/b", "w"))

    def test_the_first_column_is_that_of_the_table(self):
        one = Table(["w", "r"], {"/": {"w": "x", "r": "x"}})
        self.same(parted(one, Table(["w", "r"], {"/": {"w": "x", "r": "y"}})), ("/", "r"))
        self.same(parted(one, Table(["w", "r"])), ("/", "w"))

    def test_a_place_ahead_goes_ahead_of_a_column_ahead(self):
        one = two({"/a": {"w": "x"}, "/b": {"r": "x"}})
        self.same(parted(one, two({})), ("/a", "w"))

    def test_needless_cells_part_nothing(self):
        one = Table.plain("r", {"/": "a", "/x": "a", "/x/y": "b"})
        other = Table.plain("r", {"/": "a", "/x/y": "b", "/x/y/z": "b"})
        self.same([parted(one, other), alike(one, other), parted(one, one)], [None, True, None])

    def test_nothing_is_unlike_all_answers(self):
        self.same(parted(Table(["r"]), Table.plain("r", {"/a/b": "x"})), ("/a/b", "r"))
        self.same(alike(Table(["r"]), Table.plain("r", {"/a/b": "x"})), False)

    def test_a_row_that_hides_another_one(self):
        one = Table.plain("r", {"/": "a", "/x": "b"})
        other = Table.plain("r", {"/": "a", "/x/y": "b"})
        self.same(parted(one, other), ("/x", "r"))

    def test_against_all_places(self):
        random = Random(3)
        for _ in range(400):
            one, other = some_table(random), some_table(random)
            found = [(place, column) for place in sorted(PLACES) for column in one.columns
                     if one.told(place, column) != other.told(place, column)]
            self.same(parted(one, other), found[0] if found else None)
            self.same(alike(one, other), not found)

    def test_by_name(self):
        self.assertIsNone(parted(one=two({}), other=two({})))
        self.assertIs(alike(one=two({}), other=two({})), True)


class Columns(Case):
    def test_other_columns_and_another_order(self):
        table = two({"/": {"r": "x"}})
        for columns in (["w", "r"], ["r"], ["r", "w", "z"], ["r", "z"]):
            for ask in (parted, alike, closest):
                self.refused(UnlikeColumns, {}, ask, table, Table(columns))
                self.refused(UnlikeColumns, {}, ask, Table(columns), table)


class Closest(Case):
    def test_rows_that_are_left_in_part(self):
        table = two({"/": {"r": "a", "w": "a"}, "/x": {"r": "b", "w": "b"}})
        made = closest(table, two({"/": {"r": "a"}, "/x": {"w": "b"}}))
        self.same(rows_of(made), {"/": {"r": "a"}, "/x": {"w": "b"}})

    def test_a_needless_cell_stays_if_it_says_what_is_wished(self):
        table = Table.plain("r", {"/": "a", "/x": "a", "/x/y": "b"})
        self.same(rows_of(closest(table, Table.plain("r", {"/": "a"}))), {"/": {"r": "a"}, "/x": {"r": "a"}})

    def test_a_needless_cell_of_the_wished_table_is_not_taken_over(self):
        made = closest(Table(["r"]), Table.plain("r", {"/": "a", "/x": "a"}))
        self.same(rows_of(made), {"/": {"r": "a"}})

    def test_nothing_wished(self):
        self.same(rows_of(closest(forty(), Table(["r"]))), {})

    def test_it_tells_what_is_wished_and_changes_the_fewest_places(self):
        random = Random(4)
        small = ["/", "/a", "/a/b"]
        choices = [{}, {"r": "x"}, {"w": "x"}, {"r": "y", "w": "x"}, {"r": "x", "w": "x"}]
        tables = [two({place: cells for place, cells in zip(small, row) if cells}) for row in product(choices, repeat=3)]
        for _ in range(150):
            table, wished = random.choice(tables), random.choice(tables)
            made = closest(table, wished)
            self.assertTrue(alike(made, wished))
            fewest = min(differing(table, other) for other in tables if alike(other, wished))
            self.same(differing(table, made), fewest)

    def test_arguments_are_not_changed(self):
        table, wished = forty(), Table.plain("r", {"/": "a10"})
        made = closest(table=table, wished=wished)
        made.put("/", r="zed")
        self.assertEqual(table, forty())
        self.assertEqual(wished, Table.plain("r", {"/": "a10"}))
        self.same(made.places, ("/", "/p10"))

    def test_more_than_forty_rows_left(self):
        keeps = Table.plain("r", {f"/k/k{number}": "x" for number in range(39)})
        wished = Table.plain("r", {"/k": "x", "/z": "y"})
        self.refused(TooMany, {"most": 40}, closest, keeps, wished)
        self.same(len(closest(keeps, Table.plain("r", {"/k": "x"}))), 40)

    def test_columns_go_ahead_of_too_many(self):
        keeps = Table.plain("r", {f"/k/k{number}": "x" for number in range(40)})
        self.refused(TooMany, {"most": 40}, closest, keeps, Table.plain("r", {"/k": "x"}))
        self.refused(UnlikeColumns, {}, closest, keeps, Table.plain("w", {"/k": "x"}))


def differing(one, other):
    places = set(one.places) | set(other.places)
    return len([place for place in places if rows_of(one).get(place) != rows_of(other).get(place)])


if __name__ == "__main__":
    unittest.main()
