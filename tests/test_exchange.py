import unittest

from helpers import NO_NAMES, NO_PLACES, Case, forty, rows_of
from nearestsays.errors import BadColumn, BadPlace, NoStep, TooMany, UnlikeColumns
from nearestsays.exchange import Exchange, unlike
from nearestsays.places import Place
from nearestsays.tables import Table

FIRST = {"/a": {"r": "1"}, "/a/b": {"r": "2", "w": "3"}, "/c": {"w": "4"}, "/k": {"r": "7", "w": "8"}}
SECOND = {"/a/b": {"r": "2", "w": "x"}, "/a/b/e": {"r": "u", "w": "z"}, "/c": {"r": "y"}, "/k": {"r": "7", "w": "8"}}

SENTENCES = {
    ("old", "old"): "upper", ("old", "new"): "lower", ("new", "old"): "upper",
    ("new", "new"): "lower", ("turned", "new"): "lower", ("turned", "old"): "upper",
}

CELLS = {"old": ("{}1", None), "new": (None, "{}2"), "turned": ("{}1", "{}2"), "kept": ("{}1", "{}1")}


def plain(first, second, divided=()):
    return Exchange(Table.plain("r", first), Table.plain("r", second), divided=divided)


def two(first, second, divided=()):
    return Exchange(Table(["r", "w"], first), Table(["r", "w"], second), divided=divided)


def some(divided=()):
    return two(FIRST, SECOND, divided)


def of_kinds(kinds):
    """A plain exchange with cells of these kinds by their places."""
    tables = ({}, {})
    for number, (place, kind) in enumerate(kinds.items()):
        for table, answer in zip(tables, CELLS[kind]):
            if answer is not None:
                table[place] = answer.format(f"a{number}x")
    return plain(*tables)


class Steps(Case):
    def test_steps_are_numbered_by_their_places(self):
        self.same([str(step) for step in some().steps], ["take /a", "edit /a/b", "put /a/b/e", "edit /c"])
        self.same([len(some()), type(some().steps)], [4, tuple])

    def test_at_a_divided_place_by_the_columns(self):
        exchange = some(["/c", "/a/b/e"])
        wanted = ["take /a", "edit /a/b", "part /a/b/e r", "part /a/b/e w", "part /c r", "part /c w"]
        self.same([str(step) for step in exchange.steps], wanted)
        self.same([len(exchange), exchange.divided], [6, ("/a/b/e", "/c")])

    def test_a_divided_place_with_one_column(self):
        self.same([str(step) for step in some(["/a"]).steps][0], "part /a r")
        self.same([str(step) for step in some(["/a/b"]).steps][1], "part /a/b w")

    def test_order_of_places_and_of_columns(self):
        texts = ["/", "/a", "/a/b", "/a0", "/ab"]
        exchange = Exchange(Table(["z", "a"]), Table(["z", "a"], {text: {"a": "1", "z": "2"} for text in texts[::-1]}), divided=texts)
        self.same([str(step) for step in exchange.steps], [f"part {text} {column}" for text in texts for column in "za"])

    def test_no_steps(self):
        exchange = two(FIRST, FIRST)
        self.same([len(exchange), exchange.steps, exchange.sentences, exchange.divided], [0, (), (), ()])
        self.same([len(plain({}, {})), plain({}, {}).places], [0, ()])

    def test_places(self):
        self.same(some().places, ("/a", "/a/b", "/a/b/e", "/c", "/k"))
        self.same(some(["/c", "/a"]).places, some().places)
        self.same(some().back().places, some().places)

    def test_places_of_tables_that_share_some(self):
        wanted = ("/", "/a", "/a/b", "/a0", "/ab")
        for first in ("/a /a0 /", "/ab /a/b /a /", "/a /a/b /a0 /ab /", ""):
            for second in ("/ab /a/b /", "/ /a0 /a", "/ab /a0 /a/b /a /"):
                shared = {*first.split(), *second.split()}
                exchange = plain({place: "x" for place in first.split()}, {place: "y" for place in second.split()})
                self.same(exchange.places, tuple(place for place in wanted if place in shared))

    def test_places_are_read_and_not_set(self):
        exchange = some()
        with self.assertRaises(AttributeError):
            exchange.places = ()
        self.same(exchange.places, ("/a", "/a/b", "/a/b/e", "/c", "/k"))


class Cells(Case):
    def test_kinds(self):
        exchange = some()
        wanted = {"/a": ("old", None), "/a/b": ("kept", "turned"), "/a/b/e": ("new", "new"), "/c": ("new", "old"),
                  "/k": ("kept", "kept"), "/": (None, None), "/x": (None, None), "/a/b/e/f": (None, None)}
        for place, kinds in wanted.items():
            for value in (place, Place.read(place)):
                self.same((exchange.kind(value, "r"), exchange.kind(value, "w")), kinds)

    def test_above_is_of_both_tables_together(self):
        exchange = plain({"/": "a", "/x/y": "c"}, {"/x": "b"})
        wanted = {"/": None, "/x": "/", "/x/y": "/x", "/x/y/z": "/x/y", "/x/z": "/x", "/y": "/", "/x/y/z/u": "/x/y"}
        for place, above in wanted.items():
            self.same(exchange.above(place, "r"), above)
            self.same(exchange.above(Place.read(place), column="r"), above)

    def test_above_is_of_the_column(self):
        exchange = some()
        self.same([exchange.above("/a/b", "r"), exchange.above("/a/b", "w")], ["/a", None])
        self.same([exchange.above("/a/b/e", "r"), exchange.above("/a/b/e", "w")], ["/a/b", "/a/b"])
        self.same(exchange.above("/c/d", "r"), "/c")

    def test_number_of(self):
        exchange = some()
        wanted = {"/a": (0, None), "/a/b": (None, 1), "/a/b/e": (2, 2), "/c": (3, 3), "/k": (None, None), "/": (None, None)}
        for place, numbers in wanted.items():
            for value in (place, Place.read(place)):
                self.same((exchange.number_of(value, "r"), exchange.number_of(value, "w")), numbers)

    def test_number_of_parts(self):
        exchange = some(["/c", "/a/b", "/a/b/e"])
        wanted = {"/a": (0, None), "/a/b": (None, 1), "/a/b/e": (2, 3), "/c": (4, 5), "/k": (None, None)}
        for place, numbers in wanted.items():
            self.same((exchange.number_of(place, "r"), exchange.number_of(place=place, column="w")), numbers)

    def test_no_place_and_no_column(self):
        exchange = some()
        for ask in (exchange.kind, exchange.above, exchange.number_of):
            for value in NO_PLACES:
                self.refused(BadPlace, {"value": value}, ask, value, "r")
                self.refused(BadPlace, {"value": value}, ask, value, "x")
            for value in [*NO_NAMES, "x"]:
                self.refused(BadColumn, {"value": value}, ask, "/a", value)
                self.refused(BadColumn, {"value": value}, ask, Place("zz"), value)


class Sentences(Case):
    def test_each_of_the_sixteen_pairs(self):
        for upper in CELLS:
            for lower in CELLS:
                exchange = of_kinds({"/p": upper, "/p/q/r": lower})
                self.same([exchange.kind("/p", "r"), exchange.kind("/p/q/r", "r")], [upper, lower])
                first = SENTENCES.get((upper, lower))
                wanted = {None: (), "upper": ((0, 1, "r", f"{upper}/{lower}"),), "lower": ((1, 0, "r", f"{upper}/{lower}"),)}
                self.same(exchange.sentences, wanted[first])

    def test_only_the_cell_above_counts(self):
        self.same(of_kinds({"/": "old", "/x": "new", "/x/y": "old"}).sentences, ((1, 0, "r", "old/new"), (1, 2, "r", "new/old")))
        self.same(of_kinds({"/": "old", "/x": "kept", "/x/y": "old"}).sentences, ())
        self.same(of_kinds({"/": "old", "/x": "turned", "/x/y": "old"}).sentences, ((1, 2, "r", "turned/old"),))

    def test_beside_one_another_there_is_none(self):
        self.same(of_kinds({"/a": "old", "/ab": "new", "/b": "old"}).sentences, ())

    def test_two_below_one(self):
        wanted = ((1, 0, "r", "turned/new"), (0, 2, "r", "turned/old"))
        self.same(of_kinds({"/": "turned", "/a": "new", "/b": "old"}).sentences, wanted)

    def test_they_ascend_by_the_lower_cell_then_by_column(self):
        exchange = two({"/": {"r": "1", "w": "2"}, "/b": {"w": "3", "r": "4"}}, {"/a": {"w": "5"}, "/a0": {"w": "6", "r": "7"}})
        self.same(exchange.sentences, (
            (1, 0, "w", "old/new"), (2, 0, "r", "old/new"), (2, 0, "w", "old/new"), (0, 3, "r", "old/old"), (0, 3, "w", "old/old"),
        ))

    def test_columns_in_the_order_of_the_table(self):
        exchange = Exchange(Table(["w", "r"], {"/": {"r": "1", "w": "2"}, "/a": {"r": "3", "w": "4"}}), Table(["w", "r"]))
        self.same(exchange.sentences, ((0, 1, "w", "old/old"), (0, 1, "r", "old/old")))

    def test_divided_places_have_sentences_of_their_parts(self):
        exchange = two({"/p": {"r": "1"}, "/p/q": {"r": "2"}}, {"/p": {"w": "3"}, "/p/q": {"w": "4"}}, ["/p/q", "/p"])
        self.same(exchange.sentences, ((0, 2, "r", "old/old"), (3, 1, "w", "new/new")))

    def test_columns_that_are_kept_say_nothing(self):
        exchange = two({"/": {"r": "1"}, "/a": {"r": "2"}}, {"/": {"r": "1", "w": "3"}, "/a": {"r": "2", "w": "4"}})
        self.same(exchange.sentences, ((1, 0, "w", "new/new"),))


class Dividing(Case):
    def test_in_any_order_and_twice_as_texts_and_as_places(self):
        wanted = some(["/a", "/c"])
        for divided in [("/c", "/a"), ["/c", "/a", "/c"], [Place("a"), "/c"], ("/a", Place("c"), Place("a"), "/a")]:
            self.assertEqual(some(divided), wanted)
            self.assertEqual(some().divide(*divided), wanted)
            self.same(some(divided).divided, ("/a", "/c"))

    def test_divide_adds_places(self):
        one = some(["/c"])
        self.assertEqual(one.divide("/a", "/c"), some(["/a", "/c"]))
        self.assertEqual(one.divide(), one)
        self.same(one.divided, ("/c",))

    def test_places_that_are_none(self):
        for value in NO_PLACES:
            self.refused(BadPlace, {"value": value}, some, [value])
            self.refused(BadPlace, {"value": value}, some().divide, value)
            self.refused(BadPlace, {"value": value}, some, ("/a", "/k", value, "//"))
            self.refused(BadPlace, {"value": value}, some().divide, "/x", value, None)

    def test_places_at_which_the_rows_do_not_differ(self):
        for value, place in [("/k", "/k"), (Place("k"), "/k"), ("/x", "/x"), (Place(), "/"), ("/a/b/c", "/a/b/c")]:
            self.refused(NoStep, {"value": place}, some, [value])
            self.refused(NoStep, {"value": place}, some(["/c"]).divide, "/a", value)
        self.refused(NoStep, {"value": "/x"}, some, ["/a", "/x", "/k", "/"])
        self.refused(NoStep, {"value": "/k"}, some().divide, "/k", "/x")

    def test_a_refused_division_changes_nothing(self):
        exchange = some(["/c"])
        self.refused(NoStep, {"value": "/k"}, exchange.divide, "/a", "/k")
        self.assertEqual(exchange, some(["/c"]))

    def test_the_list_may_be_changed_afterwards(self):
        divided = ["/a"]
        exchange = some(divided)
        divided.append("/c")
        self.same([exchange.divided, len(exchange), divided], [("/a",), 4, ["/a", "/c"]])


class Refused(Case):
    def test_unlike_columns(self):
        for columns in (["w", "r"], ["r"], ["r", "w", "z"], ["r", "z"]):
            self.refused(UnlikeColumns, {}, Exchange, Table(["r", "w"]), Table(columns))
            self.refused(UnlikeColumns, {}, Exchange, Table(columns), Table(["r", "w"]))

    def test_more_than_forty_places_together(self):
        self.refused(TooMany, {"most": 40}, Exchange, forty(), Table.plain("r", {"/q": "a"}))
        self.refused(TooMany, {"most": 40}, Exchange, Table.plain("r", {"/q": "a"}), forty())
        self.same(len(Exchange(forty(), Table.plain("r", {"/p10": "zed"})).places), 40)
        half = {f"/q{number}": "a" for number in range(20)}
        other = {f"/z{number}": "a" for number in range(20)}
        self.same(len(plain(half, other)), 40)
        self.refused(TooMany, {"most": 40}, plain, half, {**other, "/y": "a"})

    def test_two_wrong_things_at_once(self):
        self.refused(UnlikeColumns, {}, Exchange, forty("w"), Table.plain("r", {"/q": "a"}), divided=[None])
        self.refused(TooMany, {"most": 40}, Exchange, forty(), Table.plain("r", {"/q": "a"}), divided=["q"])
        self.refused(TooMany, {"most": 40}, Exchange, forty(), Table.plain("r", {"/q": "a"}), divided=["/zz"])
        self.refused(UnlikeColumns, {}, Exchange, Table(["r"]), Table(["w"]), divided=["/zz"])
        self.refused(BadPlace, {"value": "q"}, plain, {"/a": "x"}, {}, ["/b", "q"])


class Copies(Case):
    def test_the_tables_are_copied(self):
        first, second = Table(["r", "w"], FIRST), Table(["r", "w"], SECOND)
        exchange = Exchange(first, second, divided=["/c"])
        first.take("/a")
        second.put("/c", r="changed")
        second |= {"/new": {"r": "x"}}
        self.assertEqual(exchange, some(["/c"]))
        self.same([rows_of(exchange.first_copy()), rows_of(exchange.second_copy())], [FIRST, SECOND])
        self.assertEqual(exchange.back(), two(SECOND, FIRST, ["/c"]))

    def test_the_tables_passed_are_not_changed(self):
        first, second = Table(["r", "w"], FIRST), Table(["r", "w"], SECOND)
        Exchange(first, second).divide("/c").back()
        self.assertEqual([first, second], [Table(["r", "w"], FIRST), Table(["r", "w"], SECOND)])

    def test_first_copy_and_second_copy_are_new_each_time(self):
        exchange = some()
        for copy, rows in ((exchange.first_copy, FIRST), (exchange.second_copy, SECOND)):
            copy().take("/k")
            copy().put("/z", r="q")
            self.same(rows_of(copy()), rows)

    def test_back(self):
        for divided in ((), ["/c", "/a/b"]):
            exchange = some(divided)
            self.assertEqual(exchange.back(), two(SECOND, FIRST, divided))
            self.same(exchange.back().divided, exchange.divided)
            self.assertEqual(exchange.back().back(), exchange)
            self.same(exchange.back().kind("/a", "r"), "new")

    def test_by_name(self):
        tables = (Table(["r", "w"], FIRST), Table(["r", "w"], SECOND))
        self.assertEqual(Exchange(second=tables[1], divided=["/a"], first=tables[0]), some(["/a"]))
        with self.assertRaises(TypeError):
            Exchange(*tables, ["/a"])

    def test_equality(self):
        self.assertTrue(some() == some())
        self.assertFalse(some() != some())
        others = [some(["/a"]), some().back(), two(FIRST, FIRST), two(FIRST, {**SECOND, "/z": {"r": "1"}}), two({}, SECOND)]
        for other in others:
            self.assertFalse(some() == other)
            self.assertTrue(some() != other)
        for value in [None, (), 0, 4, "", {}, Table(["r", "w"], FIRST)]:
            self.assertIs(some() == value, False)
        self.assertFalse(Exchange(Table(["r"]), Table(["r"])) == Exchange(Table(["w"]), Table(["w"])))


class Unlike(Case):
    def answers(self, exchange):
        """All answers of the cells of both tables, a kept one once."""
        found = []
        for place in exchange.places:
            for column in ("r", "w"):
                kind = exchange.kind(place, column)
                if kind in ("old", "turned", "kept"):
                    found.append(exchange.first_copy()[place][column])
                if kind in ("new", "turned"):
                    found.append(exchange.second_copy()[place][column])
        return found

    def check(self, exchange):
        made = unlike(exchange)
        self.same([made.places, made.divided], [exchange.places, exchange.divided])
        self.same([str(step) for step in made.steps], [str(step) for step in exchange.steps])
        self.same(made.sentences, exchange.sentences)
        for place in exchange.places:
            for column in ("r", "w"):
                self.same(made.kind(place, column), exchange.kind(place, column))
        found = self.answers(made)
        self.same(len(set(found)), len(found))
        self.assertEqual(unlike(exchange), made)

    def test_unlike(self):
        self.check(some())
        self.check(some(["/a", "/a/b", "/c"]))
        self.check(two({}, {}))
        same = {"/": {"r": "x", "w": "x"}, "/a": {"r": "x"}}
        self.check(two(same, {"/": {"r": "x"}, "/a": {"w": "x"}, "/a/b": {"r": "x", "w": "x"}}))
        self.check(two(same, same))

    def test_many_cells(self):
        rows = {f"/p{number}": {"r": "x", "w": "x"} for number in range(40)}
        self.check(two(rows, {place: {"r": "y", "w": "y"} for place in rows}))

    def test_by_name_and_unchanged(self):
        exchange = some(["/c"])
        unlike(exchange=exchange)
        self.assertEqual(exchange, some(["/c"]))


if __name__ == "__main__":
    unittest.main()
