"""Tables: making them, asking them, copies and equality."""

import unittest
from itertools import product

from helpers import NO_NAMES, NO_PLACES, Case, forty, get, rows_of, told_by, speaker_of
from nearestsays.errors import BadCells, BadColumn, BadPlace, NoRow, TooMany
from nearestsays.places import Place
from nearestsays.tables import Table

NO_CELLS = [{}, {"x": "a"}, {"r": "a", "x": "a"}, {"r": ""}, {"r": "A"}, {"r": None}, {"r": 1}, {"r": True},
            {"r": ["a"]}, {"r": "a", "w": "b c"}, {"r": "a" * 9}, {None: "a"}, {1: "a"}, {True: "a"}, {("r",): "a"},
            None, True, 0, "r", "a", [], ["r", "a"], [("r", "a")], ("r", "a"), Place("r"), Table(["r"]), {"r": {}}]


def many(number):
    """Rows at this many places."""
    return {f"/p{at}": {"r": "a"} for at in range(10, 10 + number)}


def pair():
    return Table(["r", "w"], {"/": {"r": "all"}, "/d/old": {"w": "ann"}, "/d": {"r": "bob", "w": "cy"}})


class Columns(Case):
    def test_one_to_three_columns(self):
        for columns in (["r"], ["r", "w"], ["w", "r", "x9"], ("r",), ("abcdefgh", "0", "z")):
            table = Table(columns)
            self.same(table.columns, tuple(columns))
            self.same(len(table), 0)

    def test_what_is_no_list_or_tuple_of_one_to_three(self):
        wrong = [None, True, 0, "r", "", {}, {"r": "a"}, [], (), ["a", "b", "c", "d"], ("a",) * 4, [1, 2, 3, 4], Place("a")]
        for columns in wrong:
            self.refused(BadColumn, {"value": None}, Table, columns)

    def test_the_first_item_that_is_no_name(self):
        for value in NO_NAMES:
            self.refused(BadColumn, {"value": value}, Table, [value])
            self.refused(BadColumn, {"value": value}, Table, ("r", value, 5))

    def test_a_column_twice(self):
        self.refused(BadColumn, {"value": "r"}, Table, ["r", "r"])
        self.refused(BadColumn, {"value": "r"}, Table, ["r", "w", "r"])
        self.refused(BadColumn, {"value": "w"}, Table, ["w", "w", "R"])
        self.refused(BadColumn, {"value": "R"}, Table, ["w", "R", "w"])

    def test_numbers_of_the_class(self):
        self.same([Table.MOST, Table.WIDEST], [40, 3])


class Making(Case):
    def test_rows_by_position_and_by_name(self):
        rows = {"/a": {"r": "x"}, "/": {"r": "y"}}
        self.same(rows_of(Table(["r"], rows)), rows)
        self.assertEqual(Table(columns=["r"], rows=rows), Table(("r",), rows))

    def test_no_rows(self):
        for table in (Table(["r"]), Table(["r"], None), Table(["r"], {}), Table(["r"], rows=None)):
            self.same([table.places, len(table), bool(table)], [(), 0, False])

    def test_columns_go_ahead_of_rows(self):
        self.refused(BadColumn, {"value": None}, Table, [], {"x": 1})
        self.refused(BadColumn, {"value": "R"}, Table, ["R"], {"x": 1})

    def test_the_least_key_that_is_no_place(self):
        self.refused(BadPlace, {"value": "/B"}, Table, ["r"], {"b": {"r": "x"}, "/a": {"r": "x"}, "/B": {"r": "x"}})
        self.refused(BadPlace, {"value": ""}, Table, ["r"], {"/a/": {"r": "x"}, "": {"r": "x"}})
        for key in [value for value in NO_PLACES if isinstance(value, str)]:
            self.refused(BadPlace, {"value": key}, Table, ["r"], {"/zz": {"r": "a"}, key: {"r": "a"}})

    def test_a_wrong_key_goes_ahead_of_wrong_cells(self):
        self.refused(BadPlace, {"value": "z"}, Table, ["r"], {"/a": None, "z": {"r": "x"}})

    def test_wrong_cells(self):
        for value in NO_CELLS:
            self.refused(BadCells, {"place": "/b"}, Table, ["r", "w"], {"/c": None, "/b": value, "/a": {"r": "x"}})

    def test_wrong_cells_go_ahead_of_too_many(self):
        self.refused(BadCells, {"place": "/p30"}, Table, ["r"], {**many(50), "/p30": {}, "/p40": {}})
        self.refused(BadPlace, {"value": "p"}, Table, ["r"], {**many(50), "p": {"r": "a"}})

    def test_forty_rows_and_one_more(self):
        self.same(len(Table(["r"], many(40))), 40)
        self.refused(TooMany, {"most": 40}, Table, ["r"], many(41))

    def test_what_was_passed_may_be_changed(self):
        columns, rows = ["r", "w"], {"/a": {"r": "x"}}
        table = Table(columns, rows)
        columns.append("z")
        rows["/a"]["w"] = "y"
        rows["/b"] = {"r": "q"}
        self.same([table.columns, rows_of(table)], [("r", "w"), {"/a": {"r": "x"}}])

    def test_what_was_passed_is_not_changed(self):
        columns, rows = ["r", "w"], {"/b": {"w": "x", "r": "y"}, "/a": {"r": "x"}}
        table = Table(columns, rows)
        table.put("/a", w="z")
        table.take("/b")
        self.same([columns, rows], [["r", "w"], {"/b": {"w": "x", "r": "y"}, "/a": {"r": "x"}}])


class Plain(Case):
    def test_plain(self):
        table = Table.plain("r", {"/a": "x", "/": "y"})
        self.same([table.columns, rows_of(table)], [("r",), {"/": {"r": "y"}, "/a": {"r": "x"}}])
        self.assertEqual(Table.plain(column="r", answers={}), Table(["r"]))

    def test_no_column(self):
        for value in NO_NAMES:
            self.refused(BadColumn, {"value": value}, Table.plain, value, {"x": 1})

    def test_the_least_key_that_is_no_place(self):
        self.refused(BadPlace, {"value": "/a/"}, Table.plain, "r", {"b": "x", "/a/": "x"})
        self.refused(BadPlace, {"value": "b"}, Table.plain, "r", {"/a": None, "b": "x"})

    def test_no_answer(self):
        for value in NO_NAMES:
            self.refused(BadCells, {"place": "/b"}, Table.plain, "r", {"/c": None, "/b": value, "/a": "x"})

    def test_forty_rows_and_one_more(self):
        self.same(len(forty()), 40)
        rows = {f"/p{number}": "a" for number in range(41)}
        self.refused(TooMany, {"most": 40}, Table.plain, "r", rows)
        self.refused(BadCells, {"place": "/p7"}, Table.plain, "r", {**rows, "/p7": "A"})


class Asking(Case):
    def test_places_ascend(self):
        table = Table.plain("r", {"/ab": "x", "/a0": "x", "/a/b": "x", "/a": "x", "/": "x"})
        self.same(table.places, ("/", "/a", "/a/b", "/a0", "/ab"))
        with self.assertRaises(AttributeError):
            table.places = ()

    def test_places_and_cells_ascend_also_behind_changes(self):
        table = Table.plain("r", {"/b": "x", "/c": "x"})
        table.put("/a", r="y")
        table.update({"/b/a": {"r": "z"}, "/": {"r": "u"}})
        table.take("/b")
        table.put("/b", r="v")
        self.same(table.places, ("/", "/a", "/b", "/b/a", "/c"))
        self.same([place for place, _, _ in table.cells()], ["/", "/a", "/b", "/b/a", "/c"])

    def test_the_cells_of_a_row(self):
        self.same(pair()["/d"], {"r": "bob", "w": "cy"})
        self.same(pair()[Place("d", "old")], {"w": "ann"})
        self.same(pair()[Place()], {"r": "all"})

    def test_the_cells_are_a_new_dict(self):
        table = pair()
        cells = table["/d"]
        cells["r"] = "zed"
        cells.pop("w")
        self.same(table["/d"], {"r": "bob", "w": "cy"})

    def test_no_row(self):
        for place in ("/x", Place("x")):
            self.refused(NoRow, {"place": "/x"}, get, pair(), place)
        self.refused(NoRow, {"place": "/"}, get, Table(["r"]), Place())

    def test_in(self):
        table = pair()
        for value in ["/", "/d", "/d/old", Place(), Place("d", "old")]:
            self.assertIs(value in table, True)
        for value in ["/x", "/d/ol", "/d/old/x", Place("old"), *NO_PLACES]:
            self.assertIs(value in table, False)

    def test_length_and_truth(self):
        self.same([len(pair()), bool(pair()), len(Table(["r"])), bool(Table(["r"]))], [3, True, 0, False])

    def test_a_table_is_not_iterated_over(self):
        with self.assertRaises(TypeError):
            list(pair())

    def test_cells(self):
        table = Table(["w", "r"], {"/b": {"r": "x", "w": "y"}, "/a/c": {"r": "z"}, "/a0": {"w": "u"}, "/a": {"r": "q"}})
        wanted = [("/a", "r", "q"), ("/a/c", "r", "z"), ("/a0", "w", "u"), ("/b", "w", "y"), ("/b", "r", "x")]
        self.same(list(table.cells()), wanted)
        self.same(list(Table(["r"]).cells()), [])

    def test_cells_while_the_table_is_changed(self):
        table = Table.plain("r", {"/a": "x", "/b": "y", "/c": "z"})
        seen = []
        for place, column, answer in table.cells():
            table.take(place)
            seen.append((place, column, answer))
        self.same([len(table), seen], [0, [("/a", "r", "x"), ("/b", "r", "y"), ("/c", "r", "z")]])


class Told(Case):
    def test_below_between_and_beside_rows(self):
        table = Table.plain("r", {"/a": "x", "/a/b/c": "y", "/ab": "z"})
        wanted = {"/": None, "/a": "x", "/a/b": "x", "/a/b/c": "y", "/a/b/c/d/e/f/g/h": "y", "/a/bc": "x",
                  "/a/b/d": "x", "/ab": "z", "/ab/b/c": "z", "/b": None, "/a0": None, "/abc": None}
        for place, answer in wanted.items():
            for value in (place, Place.read(place)):
                self.same(table(value), (answer,))
                self.same(table.told(value), (answer,))
                self.same(table.told(value, "r"), (answer,))

    def test_the_root_says_it_everywhere(self):
        table = Table.plain("r", {"/": "x"})
        for place in ("/", "/a", "/a/b/c/d/e/f/g/h"):
            self.same([table(place), table.speaker(place, "r")], [("x",), "/"])

    def test_eight_names_deep(self):
        deepest = "/a/b/c/d/e/f/g/h"
        table = Table.plain("r", {"/": "x", deepest: "y"})
        self.same([table(deepest), table("/a/b/c/d/e/f/g"), table("/a/b/c/d/e/f/g/i")], [("y",), ("x",), ("x",)])

    def test_columns_are_told_by_rows_of_their_own(self):
        table = pair()
        self.same(table("/d/old/x"), ("bob", "ann"))
        self.same(table(place="/x"), ("all", None))
        self.same(table.told("/d/old", "w", "r", "w"), ("ann", "bob", "ann"))
        self.same(table.told("/", "w"), (None,))
        self.same(table.told(place="/d"), ("bob", "cy"))

    def test_speaker(self):
        table = pair()
        wanted = {("/d/old/x", "r"): "/d", ("/d/old/x", "w"): "/d/old", ("/d", "w"): "/d", ("/", "w"): None, ("/x", "r"): "/"}
        for (place, column), spot in wanted.items():
            self.same(table.speaker(place, column), spot)
            self.same(table.speaker(place=Place.read(place), column=column), spot)

    def test_no_place(self):
        table = pair()
        for value in NO_PLACES:
            self.refused(BadPlace, {"value": value}, table, value)
            self.refused(BadPlace, {"value": value}, table.told, value)
            self.refused(BadPlace, {"value": value}, table.told, value, "r", "x")
            self.refused(BadPlace, {"value": value}, table.speaker, value, "x")
            self.refused(BadPlace, {"value": value}, get, table, value)

    def test_no_column(self):
        table = pair()
        for value in [*NO_NAMES, "x", "rw"]:
            self.refused(BadColumn, {"value": value}, table.told, "/d", value)
            self.refused(BadColumn, {"value": value}, table.told, "/d", "r", value, "w", 0)
            self.refused(BadColumn, {"value": value}, table.speaker, "/d", value)

    def test_all_places_against_another_way(self):
        rows = {"/": {"w": "a"}, "/a": {"r": "b"}, "/a/b": {"w": "c"}, "/a/b/a": {"r": "d", "w": "e"}, "/b/b": {"r": "f"}}
        table = Table(["r", "w"], rows)
        for size in range(4):
            for names in product("ab", repeat=size):
                place = Place(*names)
                self.same(table(place), tuple(told_by(rows, place.text, column) for column in ("r", "w")))
                for column in ("r", "w"):
                    self.same(table.speaker(place, column), speaker_of(rows, place.text, column))


class Copies(Case):
    def test_a_copy_is_a_table_of_its_own(self):
        table = pair()
        twin = table.copy()
        self.assertEqual(twin, table)
        twin.put("/d", r="new")
        twin.take("/")
        self.assertEqual(table, pair())
        table.put("/x", w="q")
        self.same(twin.places, ("/d", "/d/old"))

    def test_equality(self):
        self.assertTrue(pair() == pair())
        self.assertFalse(pair() != pair())
        other = {"/d/old": {"w": "ann"}, "/d": {"w": "cy", "r": "bob"}, "/": {"r": "all"}}
        self.assertTrue(pair() == Table(("r", "w"), other))

    def test_unequal_tables(self):
        rows = {"/a": {"r": "x"}}
        table = Table(["r", "w"], rows)
        for other in [Table(["w", "r"], rows), Table(["r"], rows), Table(["r", "w"]), Table(["r", "w"], {"/b": {"r": "x"}}),
                      Table(["r", "w"], {"/a": {"r": "y"}}), Table(["r", "w"], {"/a": {"w": "x"}}),
                      Table(["r", "w"], {"/a": {"r": "x", "w": "x"}})]:
            self.assertFalse(table == other)
            self.assertTrue(table != other)

    def test_a_table_equals_nothing_of_another_kind(self):
        for value in [{"/a": {"r": "x"}}, {}, None, False, 0, (), [], "", Place()]:
            self.assertIs(Table(["r"]) == value, False)
            self.assertIs(Table(["r"], {"/a": {"r": "x"}}) == value, False)


if __name__ == "__main__":
    unittest.main()
