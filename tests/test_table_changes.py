"""Tables: each way to change a row or several, and blocks that undo what an error left."""

import unittest

from helpers import NO_PLACES, Case, change, forty, get, joined, put, rows_of
from nearestsays.errors import BadCells, BadName, BadPlace, NoRow, TooMany
from nearestsays.places import Place
from nearestsays.tables import Table
from test_tables import NO_CELLS, pair


class Setting(Case):
    def test_a_row_is_set(self):
        table = pair()
        table["/x/y"] = {"w": "q"}
        table[Place("z")] = {"r": "a", "w": "b"}
        self.same([table["/x/y"], table["/z"], len(table)], [{"w": "q"}, {"r": "a", "w": "b"}, 5])

    def test_a_row_is_set_as_a_whole(self):
        table = pair()
        table["/d"] = {"w": "new"}
        self.same([table["/d"], table("/d"), len(table)], [{"w": "new"}, ("all", "new"), 3])
        table["/"] = {"w": "top"}
        self.same(table("/x"), (None, "top"))

    def test_put(self):
        table = pair()
        self.assertIsNone(table.put("/d", r="q"))
        self.assertIsNone(table.put(Place(), w="u", r="v"))
        self.assertIsNone(table.put(place="/n", w="z"))
        self.same(rows_of(table), {"/": {"r": "v", "w": "u"}, "/d": {"r": "q"}, "/d/old": {"w": "ann"}, "/n": {"w": "z"}})

    def test_take(self):
        table = pair()
        self.same(table.take("/d"), {"r": "bob", "w": "cy"})
        self.same(table.take(place=Place()), {"r": "all"})
        self.same(rows_of(table), {"/d/old": {"w": "ann"}})

    def test_what_take_returns_belongs_to_the_caller(self):
        table = pair()
        twin = table.copy()
        table.take("/d")["r"] = "zed"
        self.same(twin["/d"], {"r": "bob", "w": "cy"})

    def test_the_cells_may_be_changed_afterwards(self):
        table, cells = pair(), {"r": "x"}
        table["/a"] = cells
        cells["w"] = "y"
        self.same(table["/a"], {"r": "x"})
        table["/a"] = cells
        cells.clear()
        self.same(table["/a"], {"r": "x", "w": "y"})

    def test_no_place(self):
        for value in NO_PLACES:
            table = pair()
            self.refused(BadPlace, {"value": value}, put, table, value, {"r": "a"})
            self.refused(BadPlace, {"value": value}, put, table, value, None)
            self.refused(BadPlace, {"value": value}, table.put, value, r="a")
            self.refused(BadPlace, {"value": value}, table.put, value)
            self.refused(BadPlace, {"value": value}, table.take, value)
            self.assertEqual(table, pair())

    def test_no_cells(self):
        for value in NO_CELLS:
            table = pair()
            self.refused(BadCells, {"place": "/d"}, put, table, "/d", value)
            self.refused(BadCells, {"place": "/new"}, put, table, Place("new"), value)
            self.assertEqual(table, pair())

    def test_put_refuses_wrong_cells(self):
        table = pair()
        self.refused(BadCells, {"place": "/d"}, table.put, "/d")
        self.refused(BadCells, {"place": "/d"}, table.put, Place("d"), x="a")
        self.refused(BadCells, {"place": "/d"}, table.put, "/d", r="a", x="a")
        self.refused(BadCells, {"place": "/d"}, table.put, "/d", r="A")
        self.refused(BadCells, {"place": "/d"}, table.put, "/d", r=None, w="a")
        self.assertEqual(table, pair())

    def test_no_row(self):
        table = pair()
        self.refused(NoRow, {"place": "/old"}, table.take, "/old")
        self.refused(NoRow, {"place": "/old"}, table.take, Place("old"))
        self.assertEqual(table, pair())

    def test_a_row_is_taken_once(self):
        table = pair()
        table.take("/d")
        self.refused(NoRow, {"place": "/d"}, table.take, "/d")
        self.refused(NoRow, {"place": "/d"}, get, table, "/d")


class FortyRows(Case):
    def test_one_more_is_refused_by_each_way(self):
        table = forty()
        self.refused(TooMany, {"most": 40}, put, table, "/q", {"r": "a"})
        self.refused(TooMany, {"most": 40}, table.put, Place("q"), r="a")
        self.refused(TooMany, {"most": 40}, table.update, {"/p10": {"r": "x"}, "/q": {"r": "a"}})
        self.refused(TooMany, {"most": 40}, change, table, {"/q": {"r": "a"}})
        self.refused(TooMany, {"most": 40}, joined, table, {"/q": {"r": "a"}})
        self.assertEqual(table, forty())

    def test_wrong_cells_go_ahead(self):
        table = forty()
        self.refused(BadCells, {"place": "/q"}, put, table, "/q", {"x": "a"})
        self.refused(BadCells, {"place": "/q"}, table.put, "/q")
        self.refused(BadCells, {"place": "/q"}, table.update, {"/q": {}, "/q0": {"r": "a"}})
        self.refused(BadPlace, {"value": "q"}, table.update, {"/q": {}, "q": {"r": "a"}})
        self.assertEqual(table, forty())

    def test_a_row_that_is_there_may_be_set(self):
        table = forty()
        table["/p10"] = {"r": "x"}
        table.put("/p11", r="x")
        table.update({"/p12": {"r": "x"}})
        table |= {"/p13": {"r": "x"}}
        table = table | {"/p14": {"r": "x"}}
        self.same([len(table), [table(f"/p1{k}") for k in range(5)]], [40, [("x",)] * 5])

    def test_behind_a_taking_there_is_room(self):
        table = forty()
        table.take("/p30")
        table["/q"] = {"r": "x"}
        self.same(len(table), 40)

    def test_the_fortieth_row_by_each_way(self):
        for way in (put, lambda table, place, cells: table.put(place, **cells),
                    lambda table, place, cells: table.update({place: cells}),
                    lambda table, place, cells: change(table, {place: cells})):
            table = forty()
            table.take("/p10")
            way(table, "/q", {"r": "a"})
            self.same(len(table), 40)
            self.assertTrue("/q" in table)


class Several(Case):
    ROWS = {"/d": {"r": "new"}, "/n": {"r": "x", "w": "y"}}

    def wanted(self):
        return Table(["r", "w"], {"/": {"r": "all"}, "/d/old": {"w": "ann"}, **self.ROWS})

    def test_update(self):
        table = pair()
        self.assertIsNone(table.update(self.ROWS))
        self.assertEqual(table, self.wanted())
        self.assertIsNone(table.update(rows={}))
        self.assertEqual(table, self.wanted())

    def test_the_sign_changes_the_table_itself(self):
        table = held = pair()
        table |= self.ROWS
        self.assertIs(table, held)
        self.assertEqual(held, self.wanted())

    def test_the_other_sign_makes_a_new_table(self):
        table = pair()
        made = table | self.ROWS
        self.assertEqual(made, self.wanted())
        self.assertEqual(table, pair())
        made.take("/n")
        table.take("/")
        self.same([made.places, table.places], [("/", "/d", "/d/old"), ("/d", "/d/old")])
        self.assertEqual(pair() | {}, pair())

    def test_the_rows_may_be_changed_afterwards(self):
        for way in (Table.update, change, joined):
            table, rows = pair(), {"/n": {"r": "x"}}
            after = way(table, rows) or table
            rows["/n"]["w"] = "y"
            rows["/m"] = {"r": "x"}
            self.same([after["/n"], len(after)], [{"r": "x"}, 4])

    def test_refused_rows_change_nothing(self):
        wrong = [
            (BadPlace, {"value": "/X"}, {"/a": {"r": "x"}, "/x/": {"r": "x"}, "/X": {"r": "x"}}),
            (BadPlace, {"value": "z"}, {"/a": {"r": 1}, "z": {"r": "x"}}),
            (BadCells, {"place": "/b"}, {"/a": {"r": "x"}, "/c": {}, "/b": None}),
            (BadCells, {"place": "/b"}, {f"/p{k}": {"r": "x"} for k in range(50)} | {"/b": {"x": "x"}}),
            (TooMany, {"most": 40}, {f"/p{k}": {"r": "x"} for k in range(38)}),
        ]
        for error, attributes, rows in wrong:
            for way in (Table.update, change, joined):
                table = pair()
                self.refused(error, attributes, way, table, rows)
                self.assertEqual(table, pair())

    def test_each_value_that_is_no_cells(self):
        for value in NO_CELLS:
            for way in (Table.update, change, joined):
                self.refused(BadCells, {"place": "/n"}, way, pair(), {"/n": value, "/a": {"r": "x"}, "/z": value})

    def test_forty_rows_together(self):
        table = pair()
        table.update({f"/p{k}": {"r": "x"} for k in range(37)})
        self.same(len(table), 40)


class Oops(Exception):
    pass


class Blocks(Case):
    def test_the_block_holds_the_table_itself(self):
        table = pair()
        with table.editing() as held:
            self.assertIs(held, table)
            held.put("/n", r="x")
        self.same(table["/n"], {"r": "x"})

    def test_an_error_of_the_package_undoes_the_block(self):
        table = pair()
        with self.assertRaises(NoRow) as caught:
            with table.editing():
                table.put("/n", r="x")
                table.take("/d")
                table |= {"/": {"w": "q"}}
                table.take("/none")
        self.same(caught.exception.place, "/none")
        self.assertEqual(table, pair())

    def test_another_error_undoes_the_block(self):
        for error in (Oops, KeyError, KeyboardInterrupt):
            table = pair()
            with self.assertRaises(error):
                with table.editing() as held:
                    held.update({"/n": {"r": "x"}})
                    raise error()
            self.assertEqual(table, pair())

    def test_what_is_refused_and_caught_inside_undoes_nothing(self):
        table = pair()
        with table.editing():
            table.put("/n", r="x")
            self.refused(BadCells, {"place": "/m"}, table.put, "/m")
        self.assertEqual(table, pair() | {"/n": {"r": "x"}})

    def test_the_table_is_as_it_was_when_the_block_began(self):
        table = pair()
        block = table.editing()
        table.put("/n", r="x")
        with self.assertRaises(Oops):
            with block:
                table.take("/n")
                raise Oops()
        self.same(table["/n"], {"r": "x"})

    def test_an_inner_block_undoes_its_own_part(self):
        table = pair()
        with table.editing():
            table.put("/n", r="x")
            with self.assertRaises(Oops):
                with table.editing():
                    table.put("/m", r="y")
                    table.take("/n")
                    raise Oops()
            table.put("/o", r="z")
        self.assertEqual(table, pair() | {"/n": {"r": "x"}, "/o": {"r": "z"}})

    def test_an_outer_block_undoes_the_inner_one_too(self):
        table = pair()
        with self.assertRaises(Oops):
            with table.editing():
                table.put("/n", r="x")
                with table.editing():
                    table.put("/m", r="y")
                table.put("/o", r="z")
                raise Oops()
        self.assertEqual(table, pair())

    def test_an_error_goes_through_both_blocks(self):
        table = pair()
        with self.assertRaises(BadPlace):
            with table.editing():
                table.put("/n", r="x")
                with table.editing():
                    table.put("/m", r="y")
                    table.take("n")
        self.assertEqual(table, pair())

    def test_a_copy_made_inside_stays(self):
        table = pair()
        with self.assertRaises(Oops):
            with table.editing():
                table.put("/n", r="x")
                twin = table.copy()
                raise Oops()
        self.assertEqual(twin, pair() | {"/n": {"r": "x"}})
        twin.take("/n")
        self.assertEqual(twin, table)

    def test_after_an_undone_block_the_table_goes_on(self):
        table = pair()
        for _ in range(2):
            with self.assertRaises(Oops):
                with table.editing():
                    table.take("/d")
                    raise Oops()
            table.put("/n", r="x")
        self.assertEqual(table, pair() | {"/n": {"r": "x"}})


class Attempts(Case):
    def test_it_returns_what_the_function_returns(self):
        table, answer = pair(), []
        self.assertIs(table.attempt(lambda: answer), answer)
        self.same(table.attempt(ask=lambda: table.take("/d")), {"r": "bob", "w": "cy"})
        self.same(table.places, ("/", "/d/old"))
        self.assertIsNone(table.attempt(lambda: None))

    def test_an_error_undoes_it(self):
        for error in (Oops, BadName):
            table = pair()

            def ask():
                table.put("/n", r="x")
                table.take("/d")
                raise error("q") if error is BadName else error()

            with self.assertRaises(error):
                table.attempt(ask)
            self.assertEqual(table, pair())

    def test_nested(self):
        table = pair()

        def inner():
            table.take("/d")
            table.take("/d")

        def outer():
            table.put("/n", r="x")
            self.refused(NoRow, {"place": "/d"}, table.attempt, inner)
            with table.editing():
                table.put("/o", r="y")
            return len(table)

        self.same(table.attempt(outer), 5)
        self.assertEqual(table, pair() | {"/n": {"r": "x"}, "/o": {"r": "y"}})


if __name__ == "__main__":
    unittest.main()
