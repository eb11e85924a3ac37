import unittest

from helpers import Case, forty, rows_of
from nearestsays.errors import TooMany
from nearestsays.exchange import Exchange
from nearestsays.places import Place
from nearestsays.steps import Edit, Part, Put, Step, Take
from nearestsays.tables import Table

FIRST = {"/a": {"r": "1"}, "/b": {"r": "2", "w": "3"}, "/c": {"w": "4"}, "/d": {"r": "5", "w": "6"}, "/k": {"r": "7"}}
SECOND = {"/b": {"r": "2", "w": "x"}, "/c": {"r": "y"}, "/d": {"w": "6"}, "/e": {"w": "z", "r": "u"}, "/k": {"r": "7"}}


def two(rows):
    return Table(["r", "w"], rows)


def steps(divided=()):
    """The steps of one exchange by their texts."""
    return {str(step): step for step in Exchange(two(FIRST), two(SECOND), divided=divided).steps}


ALL = ["/a", "/b", "/c", "/d", "/e"]


class Kinds(Case):
    def test_classes(self):
        self.assertEqual([Put.__bases__, Take.__bases__], [(Step,), (Step,)])
        self.assertEqual([Edit.__bases__, Part.__bases__], [(Put, Take), (Edit,)])

    def test_whole_rows(self):
        wanted = {"take /a": Take, "edit /b": Edit, "edit /c": Edit, "edit /d": Edit, "put /e": Put}
        self.assertEqual({text: type(step) for text, step in steps().items()}, wanted)

    def test_parts(self):
        wanted = ["part /a r", "part /b w", "part /c r", "part /c w", "part /d r", "part /e r", "part /e w"]
        self.same(list(steps(ALL)), wanted)
        for step in steps(ALL).values():
            self.assertIs(type(step), Part)

    def test_words_places_columns(self):
        found = {text: (step.word, step.place, step.columns) for text, step in steps().items()}
        self.same(found, {
            "take /a": ("take", "/a", ("r",)), "edit /b": ("edit", "/b", ("w",)), "edit /c": ("edit", "/c", ("r", "w")),
            "edit /d": ("edit", "/d", ("r",)), "put /e": ("put", "/e", ("r", "w")),
        })
        for text, step in steps(ALL).items():
            self.same(text, f"{step.word} {step.place} {step.columns[0]}")
            self.same([step.word, len(step.columns), type(step.columns)], ["part", 1, tuple])

    def test_columns_ascend_as_in_the_table(self):
        exchange = Exchange(Table(["z", "a"], {}), Table(["z", "a"], {"/": {"a": "1", "z": "2"}}))
        self.same(exchange.steps[0].columns, ("z", "a"))

    def test_before_and_after(self):
        found = {text: (step.before, step.after) for text, step in steps().items()}
        self.same(found, {
            "take /a": ({"r": "1"}, {}), "edit /b": ({"r": "2", "w": "3"}, {"r": "2", "w": "x"}),
            "edit /c": ({"w": "4"}, {"r": "y"}), "edit /d": ({"r": "5", "w": "6"}, {"w": "6"}),
            "put /e": ({}, {"r": "u", "w": "z"}),
        })

    def test_before_and_after_of_parts(self):
        found = {text: (step.before, step.after) for text, step in steps(ALL).items()}
        self.same(found, {
            "part /a r": ({"r": "1"}, {}), "part /b w": ({"w": "3"}, {"w": "x"}), "part /c r": ({}, {"r": "y"}),
            "part /c w": ({"w": "4"}, {}), "part /d r": ({"r": "5"}, {}), "part /e r": ({}, {"r": "u"}),
            "part /e w": ({}, {"w": "z"}),
        })

    def test_before_and_after_are_new_dicts_each_time(self):
        for step in [*steps().values(), *steps(ALL).values()]:
            before, after = step.before, step.after
            self.assertIsNot(step.before, before)
            self.assertIsNot(step.after, after)
            step.before["q"] = "q"
            step.after["q"] = "q"
            step.after.clear()
            self.same([step.before, step.after], [before, after])


class Doing(Case):
    def test_on_the_first_table(self):
        table = two(FIRST)
        for step in steps().values():
            wanted = {**FIRST, step.place: step.after}
            if not step.after:
                del wanted[step.place]
            self.same(rows_of(step.on(table)), wanted)
        self.assertEqual(table, two(FIRST))

    def test_parts_on_the_first_table(self):
        table = two(FIRST)
        wanted = {"part /a r": None, "part /b w": {"r": "2", "w": "x"}, "part /c r": {"r": "y", "w": "4"}, "part /c w": None,
                  "part /d r": {"w": "6"}, "part /e r": {"r": "u"}, "part /e w": {"w": "z"}}
        for text, step in steps(ALL).items():
            made = step.on(table)
            self.same(made[step.place] if step.place in made else None, wanted[text])
            self.same({**rows_of(made), step.place: 0}, {**FIRST, step.place: 0})
        self.assertEqual(table, two(FIRST))

    def test_all_steps_in_any_order_give_the_second_table(self):
        for divided in ((), ALL, ["/c"]):
            for order in (list(steps(divided).values()), list(steps(divided).values())[::-1]):
                table = two(FIRST)
                for step in order:
                    table = step.on(table=table)
                self.assertEqual(table, two(SECOND))

    def test_what_stands_there_is_not_looked_at(self):
        table = two({"/a": {"w": "q"}, "/e": {"r": "q"}})
        found = steps()
        self.same(rows_of(found["take /a"].on(table)), {"/e": {"r": "q"}})
        self.same(rows_of(found["put /e"].on(table)), {"/a": {"w": "q"}, "/e": {"r": "u", "w": "z"}})
        self.same(rows_of(found["edit /d"].on(table)), {**rows_of(table), "/d": {"w": "6"}})
        self.same(rows_of(found["take /a"].on(two({}))), {})

    def test_parts_whatever_stands_there(self):
        found = steps(ALL)
        table = two({"/a": {"w": "q"}, "/e": {"r": "q"}, "/c": {"w": "q"}})
        self.same(rows_of(found["part /a r"].on(table)), rows_of(table))
        self.same(rows_of(found["part /e r"].on(table))["/e"], {"r": "u"})
        self.same(rows_of(found["part /e w"].on(table))["/e"], {"r": "q", "w": "z"})
        self.same(rows_of(found["part /c w"].on(table)), {"/a": {"w": "q"}, "/e": {"r": "q"}})
        self.same(rows_of(found["part /d r"].on(table)), rows_of(table))

    def test_the_new_table_is_one_of_its_own(self):
        table = two(FIRST)
        for step in [*steps().values(), *steps(ALL).values()]:
            made = step.on(table)
            made.put("/k", w="changed")
            made.put(step.place, r="changed")
            self.assertEqual(table, two(FIRST))
            self.same(step.on(table)["/k"], {"r": "7"})

    def test_forty_rows(self):
        full = forty()
        there = Exchange(Table.plain("r", {"/p10": "x"}), Table.plain("r", {"/p10": "y", "/q": "z"}))
        edit, put = there.steps
        self.same(len(edit.on(full)), 40)
        self.refused(TooMany, {"most": 40}, put.on, full)
        self.assertEqual(full, forty())
        self.same(len((~put).on(full)), 40)
        edit_elsewhere = Exchange(Table.plain("r", {"/q": "x"}), Table.plain("r", {"/q": "y"})).steps[0]
        self.refused(TooMany, {"most": 40}, edit_elsewhere.on, full)

    def test_forty_rows_and_parts(self):
        full = forty()
        part = Exchange(Table(["r"]), Table.plain("r", {"/q": "z"}), divided=["/q"]).steps[0]
        self.refused(TooMany, {"most": 40}, part.on, full)
        self.same(len((~part).on(full)), 40)
        full.take("/p10")
        full.put("/q", r="old")
        self.same(part.on(full)("/q"), ("z",))
        full.take("/p11")
        self.same(len(part.on(full)), 39)


class Back(Case):
    def test_the_way_back(self):
        found = steps()
        wanted = {"take /a": "put /a", "edit /b": "edit /b", "edit /c": "edit /c", "edit /d": "edit /d", "put /e": "take /e"}
        self.same({text: str(~step) for text, step in found.items()}, wanted)
        for step in [*found.values(), *steps(ALL).values()]:
            self.same([(~step).before, (~step).after], [step.after, step.before])
            self.same([(~step).place, (~step).columns], [step.place, step.columns])
            self.assertEqual(~~step, step)

    def test_the_classes_of_the_way_back(self):
        wanted = {Take: Put, Put: Take, Edit: Edit}
        for step in steps().values():
            self.assertIs(type(~step), wanted[type(step)])
        for step in steps(ALL).values():
            self.assertIs(type(~step), Part)
            self.same(str(~step), str(step))

    def test_there_and_back(self):
        for step in [*steps().values(), *steps(ALL).values()]:
            self.assertEqual((~step).on(step.on(two(FIRST))), two(FIRST))

    def test_they_are_the_steps_of_the_exchange_back(self):
        for divided in ((), ALL):
            exchange = Exchange(two(FIRST), two(SECOND), divided=divided)
            self.assertEqual(exchange.back().steps, tuple(~step for step in exchange.steps))


class Equality(Case):
    def test_equal_steps(self):
        self.assertEqual(steps(), steps())
        self.assertEqual(steps(ALL), steps(ALL))
        self.assertFalse(steps()["put /e"] != steps()["put /e"])

    def test_steps_of_unlike_places_kinds_or_cells(self):
        all_steps = [*steps().values(), *steps(ALL).values()]
        for at, one in enumerate(all_steps):
            for other_at, other in enumerate(all_steps):
                self.assertIs(one == other, at == other_at)

    def test_unlike_cells(self):
        base = Table.plain("r", {"/a": "x"})
        one, two_, three = (Exchange(base, Table.plain("r", {"/a": to})).steps[0] for to in ("y", "y", "z"))
        self.assertEqual(one, two_)
        self.assertNotEqual(one, three)
        self.assertNotEqual(~one, ~three)

    def test_a_part_is_no_edit(self):
        exchange = Exchange(Table.plain("r", {"/a": "x"}), Table.plain("r", {"/a": "y"}))
        self.assertFalse(exchange.steps[0] == exchange.divide("/a").steps[0])

    def test_a_step_equals_nothing_of_another_kind(self):
        for value in ["put /e", None, True, 0, (), {}, Place("e")]:
            self.assertIs(steps()["put /e"] == value, False)


if __name__ == "__main__":
    unittest.main()
