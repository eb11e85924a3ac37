import unittest
from itertools import permutations

from helpers import Case, rows_of
from nearestsays.errors import BadPlan
from nearestsays.exchange import Exchange
from nearestsays.places import Place
from nearestsays.plans import Plan
from nearestsays.tables import Table
from test_exchange import of_kinds, plain, some, two

CHAIN = ({"/p": "1", "/p/q/r": "3"}, {"/p/q": "2", "/p/q/r/s": "4"})
ALIKE = ({"/": "x", "/s": "x"}, {"/": "q", "/s/r": "y"})


def chain():
    return plain(*CHAIN)


class Making(Case):
    def test_lists_and_tuples(self):
        exchange = chain()
        for numbers in ([], (), [1, 0], (3, 1, 2), [0, 1, 2, 3]):
            plan = Plan(exchange, numbers)
            self.same([plan.numbers, len(plan)], [tuple(numbers), len(numbers)])
            self.assertEqual(plan.exchange, exchange)
            self.assertEqual(Plan(exchange=exchange, numbers=numbers), plan)
        self.same(Plan(exchange).numbers, ())

    def test_what_is_no_list_or_tuple(self):
        for value in [None, True, 0, 1, "", "01", {}, {0: 1}, Place("a"), chain(), Plan(chain(), [0])]:
            self.refused(BadPlan, {"at": None}, Plan, chain(), value)

    def test_the_first_item_that_is_no_number_of_a_step(self):
        for value in [-1, 4, 100, True, False, None, "1", "", [1], (1,), {}, Place("p"), chain(), chain().steps[1]]:
            self.refused(BadPlan, {"at": 0}, Plan, chain(), [value])
            self.refused(BadPlan, {"at": 2}, Plan, chain(), (0, 3, value, None))

    def test_a_number_twice(self):
        self.refused(BadPlan, {"at": 1}, Plan, chain(), [2, 2])
        self.refused(BadPlan, {"at": 3}, Plan, chain(), [0, 1, 2, 0, 9])
        self.refused(BadPlan, {"at": 1}, Plan, chain(), [0, False])

    def test_an_exchange_without_steps(self):
        nothing = plain({}, {})
        self.same([Plan(nothing).is_whole, Plan(nothing).is_strict, Plan(nothing).is_right], [True, True, True])
        self.refused(BadPlan, {"at": 0}, Plan, nothing, [0])

    def test_the_numbers_may_be_changed_afterwards(self):
        numbers = [1, 0]
        plan = Plan(chain(), numbers)
        numbers.append(2)
        self.same([plan.numbers, numbers], [(1, 0), [1, 0, 2]])

    def test_text(self):
        self.same([str(Plan(chain())), str(Plan(chain(), [2])), str(Plan(chain(), [2, 0, 1]))], ["none", "2", "2 0 1"])


class Parts(Case):
    def test_head(self):
        plan = Plan(chain(), [3, 1, 0])
        self.same([plan.head(k).numbers for k in range(4)], [(), (3,), (3, 1), (3, 1, 0)])
        self.assertEqual(plan.head(k=2), Plan(chain(), [3, 1]))

    def test_head_refuses_all_but_integers_in_range(self):
        for k in [-1, 4, 10, True, False, None, "1", [], (1,), {}, Place()]:
            self.refused(BadPlan, {"at": k}, Plan(chain(), [3, 1, 0]).head, k)
        self.refused(BadPlan, {"at": 1}, Plan(chain()).head, 1)

    def test_plus(self):
        plan = Plan(chain(), [3])
        self.same([(plan + 1).numbers, (plan + 1 + 0).numbers, plan.numbers], [(3, 1), (3, 1, 0), (3,)])

    def test_plus_refuses_all_but_steps_that_are_left(self):
        plan = Plan(chain(), [3, 1])
        for value in [3, 1, -1, 4, True, False, None, "0", [0], (0,), {}, Place(), plan]:
            self.refused(BadPlan, {"at": 2}, lambda: plan + value)
        self.refused(BadPlan, {"at": 4}, lambda: Plan(chain(), [0, 1, 2, 3]) + 0)

    def test_begins(self):
        plan = Plan(chain(), [3, 1])
        for other in [Plan(chain(), [3, 1]), plan + 0, plan + 2 + 0]:
            self.assertIs(plan.begins(other), True)
        self.assertIs(Plan(chain()).begins(other=Plan(chain())), True)
        for other in [plan.head(1), Plan(chain(), [1, 3]), Plan(chain(), [3, 0, 1]), Plan(chain())]:
            self.assertIs(plan.begins(other), False)

    def test_begins_with_any_value(self):
        for value in [None, True, (3, 1), [3, 1], "3 1", {}, chain(), Place()]:
            self.assertIs(Plan(chain(), [3, 1]).begins(value), False)
            self.assertIs(Plan(chain()).begins(value), False)

    def test_begins_with_another_exchange(self):
        other = plain(CHAIN[0], {**CHAIN[1], "/z": "5"})
        self.assertIs(Plan(chain()).begins(Plan(other)), False)
        self.assertIs(Plan(chain(), [1]).begins(Plan(chain().divide("/p"), [1])), False)

    def test_equality(self):
        self.assertTrue(Plan(chain(), [1, 0]) == Plan(chain(), (1, 0)))
        self.assertFalse(Plan(chain(), [1, 0]) != Plan(chain(), (1, 0)))
        for other in [Plan(chain(), [0, 1]), Plan(chain(), [1]), Plan(chain().divide("/p"), [1, 0]), Plan(chain().back(), [1, 0])]:
            self.assertFalse(Plan(chain(), [1, 0]) == other)
        for value in [(1, 0), [1, 0], None, "1 0", chain()]:
            self.assertIs(Plan(chain(), [1, 0]) == value, False)

    def test_back(self):
        plan = Plan(chain(), [1, 0, 3, 2])
        self.assertEqual(plan.back(), Plan(chain().back(), [2, 3, 0, 1]))
        self.assertEqual(plan.back().back(), plan)
        self.assertEqual(plan.back().table_behind(), chain().first_copy())
        divided = some(["/c", "/a"])
        self.assertEqual(Plan(divided, range_of(divided)).back(), Plan(divided.back(), range_of(divided)[::-1]))

    def test_back_of_a_plan_that_is_not_whole(self):
        for numbers in ([], [1], [1, 0, 3]):
            self.refused(BadPlan, {"at": len(numbers)}, Plan(chain(), numbers).back)


def range_of(exchange):
    return list(range(len(exchange)))


class Tables(Case):
    def test_table_behind(self):
        self.same(rows_of(Plan(chain(), [1, 0]).table_behind()), {"/p/q": {"r": "2"}, "/p/q/r": {"r": "3"}})
        self.assertEqual(Plan(chain()).table_behind(), chain().first_copy())
        for order in permutations(range(4)):
            self.assertEqual(Plan(chain(), order).table_behind(), chain().second_copy())

    def test_tables_at_the_moments(self):
        found = list(Plan(chain(), [1, 0, 2]).tables())
        wanted = [("/p", "/p/q/r"), ("/p", "/p/q", "/p/q/r"), ("/p/q", "/p/q/r"), ("/p/q",)]
        self.same([table.places for table in found], wanted)
        self.same([table.places for table in Plan(chain()).tables()], wanted[:1])

    def test_each_table_is_one_of_its_own(self):
        plan = Plan(chain(), [1, 0, 3, 2])
        found = []
        for table in plan.tables():
            found.append(table.places)
            table.put("/p/q", r="changed")
            table.put("/zz", r="more")
        self.same(found, [table.places for table in plan.tables()])
        kept = list(plan.tables())
        kept[0].put("/zz", r="more")
        self.same([table.places for table in kept[1:]], found[1:])
        self.assertEqual(plan.table_behind(), chain().second_copy())

    def test_what_is_done_to_the_table_behind_changes_nothing(self):
        plan = Plan(chain(), [1])
        plan.table_behind().put("/p", r="changed")
        Plan(chain()).table_behind().put("/p", r="changed")
        self.same([plan.table_behind()("/p"), chain().first_copy()("/p")], [("1",), ("1",)])

    def test_with_parts(self):
        exchange = some(["/c"])
        self.same([str(step) for step in exchange.steps][3:], ["part /c r", "part /c w"])
        found = [rows_of(table).get("/c") for table in Plan(exchange, [4, 3]).tables()]
        self.same(found, [{"w": "4"}, None, {"r": "y"}])
        found = [rows_of(table).get("/c") for table in Plan(exchange, [3, 4]).tables()]
        self.same(found, [{"w": "4"}, {"r": "y", "w": "4"}, {"r": "y"}])


class Left(Case):
    def test_what_is_left(self):
        plan = Plan(chain(), [1, 2])
        left = plan.left()
        self.assertEqual(left, Exchange(plan.table_behind(), chain().second_copy()))
        self.same([str(step) for step in left.steps], ["take /p", "put /p/q/r/s"])
        self.assertEqual(Plan(chain()).left(), chain())
        self.same(len(Plan(chain(), [0, 1, 2, 3]).left()), 0)

    def test_divided_places_that_still_differ(self):
        exchange = some(["/a", "/c"])
        self.same([str(step) for step in exchange.steps], ["part /a r", "edit /a/b", "put /a/b/e", "part /c r", "part /c w"])
        self.same(Plan(exchange, [0]).left().divided, ("/c",))
        one_left = Plan(exchange, [4, 1]).left()
        self.same([one_left.divided, [str(step) for step in one_left.steps]], [("/a", "/c"), ["part /a r", "put /a/b/e", "part /c r"]])
        self.same(Plan(exchange, [3, 0, 4]).left().divided, ())


class Strict(Case):
    def test_whole(self):
        self.same([Plan(chain(), row).is_whole for row in ([], [0], [1, 0, 3], [3, 2, 1, 0])], [False, False, False, True])

    def test_each_of_the_six_sentences(self):
        for pair, (ahead, behind) in {("old", "old"): (0, 1), ("old", "new"): (1, 0), ("new", "old"): (0, 1),
                                      ("new", "new"): (1, 0), ("turned", "new"): (1, 0), ("turned", "old"): (0, 1)}.items():
            exchange = of_kinds({"/p": pair[0], "/p/q": pair[1]})
            for numbers, wanted in {(): True, (ahead,): True, (ahead, behind): True, (behind,): False, (behind, ahead): False}.items():
                plan = Plan(exchange, numbers)
                self.same([pair, numbers, plan.is_strict, plan.is_right], [pair, numbers, wanted, wanted])

    def test_pairs_without_a_sentence(self):
        for pair in [("old", "turned"), ("new", "turned"), ("turned", "turned")]:
            for numbers in [(), (0,), (1,), (0, 1), (1, 0)]:
                plan = Plan(of_kinds({"/p": pair[0], "/p/q": pair[1]}), numbers)
                self.same([plan.is_strict, plan.is_right], [True, True])

    def test_strict_orders_of_the_chain(self):
        wanted = [(1, 0, 3, 2), (1, 3, 0, 2), (1, 3, 2, 0), (3, 1, 0, 2), (3, 1, 2, 0)]
        self.same([order for order in permutations(range(4)) if Plan(chain(), order).is_strict], wanted)
        self.same([order for order in permutations(range(4)) if Plan(chain(), order).is_right], wanted)

    def test_right_though_not_strict(self):
        exchange = plain(*ALIKE)
        self.same([str(step) for step in exchange.steps], ["edit /", "take /s", "put /s/r"])
        orders = list(permutations(range(3)))
        right = [order for order in orders if Plan(exchange, order).is_right]
        self.same(right, [order for order in orders if order[-1] != 2])
        self.same([order for order in orders if Plan(exchange, order).is_strict], [(0, 2, 1), (2, 0, 1)])
        self.same([Plan(exchange, [1]).is_right, Plan(exchange, [1]).is_strict], [True, False])
        self.same([Plan(exchange, [0, 1]).is_right, Plan(exchange, [1, 0]).is_right], [False, False])

    def test_a_sentence_is_broken_only_by_its_later_step(self):
        self.same([Plan(chain(), row).is_strict for row in ([1], [3], [0], [2], [1, 2], [3, 2])], [True, True, False, False, False, False])

    def test_none_is_a_third_answer(self):
        exchange = plain({"/": "x"}, {"/a": "y"})
        self.same([Plan(exchange, [0]).is_right, Plan(exchange, [1, 0]).is_right], [False, True])

    def test_the_same_answer_twice_may_not_change_between(self):
        exchange = plain({"/": "x", "/a": "z"}, {"/": "y", "/a/b": "z"})
        self.same([str(step) for step in exchange.steps], ["edit /", "take /a", "put /a/b"])
        self.same([Plan(exchange, row).is_right for row in ([0, 1], [1], [2, 1], [2, 0, 1])], [False, False, False, True])

    def test_a_plan_that_is_wrong_for_a_moment_only(self):
        self.same([Plan(chain(), [0, 1, 3, 2]).is_right, Plan(chain(), [0, 1]).is_right], [False, False])

    def test_each_column_counts(self):
        exchange = two({"/p": {"r": "1"}, "/p/q": {"r": "2"}}, {"/p": {"w": "3"}, "/p/q": {"w": "4"}})
        for order in permutations(range(2)):
            self.same([Plan(exchange, order).is_strict, Plan(exchange, order).is_right], [False, False])
        self.same([order for order in permutations(range(3)) if Plan(exchange.divide("/p"), order).is_strict], [(0, 2, 1)])

    def test_plans_never_change(self):
        plan = Plan(chain(), [1])
        for name in ("exchange", "is_whole", "is_strict", "is_right"):
            with self.assertRaises(AttributeError):
                setattr(plan, name, True)
        plan + 0
        plan.head(0)
        plan.left()
        self.same(plan.numbers, (1,))


class Right(Case):
    def wrong_at(self, exchange, numbers):
        """The moments at which a cell's place is told a third answer, found by the tables of the plan."""
        first, second = exchange.first_copy(), exchange.second_copy()
        tables = list(Plan(exchange, numbers).tables())
        return [
            moment for moment, table in enumerate(tables)
            if any(table(place)[at] not in (first(place)[at], second(place)[at])
                   for place in exchange.places for at in range(len(table.columns)))
        ]

    def check(self, exchange, numbers, moments):
        self.same(self.wrong_at(exchange, numbers), moments)
        self.same(Plan(exchange, numbers).is_right, not moments)

    def test_no_steps(self):
        for exchange in (chain(), plain(*ALIKE), plain({}, {}), some(), some(["/c"])):
            self.check(exchange, [], [])

    def test_some_steps_and_all_of_them(self):
        for numbers in ([1], [1, 0], [1, 3], [3, 1, 2], [1, 0, 3, 2], [3, 1, 2, 0]):
            self.check(chain(), numbers, [])

    def test_a_third_answer_at_the_first_moment(self):
        self.check(chain(), [0], [1])
        self.check(chain(), [0, 1], [1])
        self.check(chain(), [0, 1, 3, 2], [1])

    def test_in_the_middle(self):
        self.check(chain(), [1, 0, 2, 3], [3])
        self.check(chain(), [3, 0, 1, 2], [2])
        self.check(chain(), [3, 2, 0, 1], [2, 3])

    def test_at_the_last_moment(self):
        self.check(chain(), [1, 2], [2])
        self.check(chain(), [3, 1, 0, 2], [])
        self.check(chain(), [3, 0], [2])

    def test_the_example_of_the_standings(self):
        wrong = {order: [2] for order in permutations(range(3)) if order[-1] == 2}
        for order in permutations(range(3)):
            self.check(plain(*ALIKE), order, wrong.get(order, []))

    def test_every_plan_of_a_small_exchange(self):
        for exchange in (chain(), some(), some(["/c", "/a"])):
            for size in range(4):
                for numbers in permutations(range(len(exchange)), size):
                    self.same(Plan(exchange, numbers).is_right, not self.wrong_at(exchange, numbers))

    def test_forty_rows_in_three_columns(self):
        columns = ["r", "w", "z"]
        places = [f"/p{number}" for number in range(8)] + [f"/p{number}/q{deep}" for number in range(8) for deep in range(4)]
        first = {place: {column: f"x{len(place)}" for column in columns} for place in places}
        second = {place: {column: "y" for column in columns} for place in places}
        exchange = Exchange(Table(columns, first), Table(columns, second), divided=places)
        self.same([len(exchange), Plan(exchange, range_of(exchange)[::-1]).is_right], [120, True])
        gone = Exchange(Table(columns, first), Table(columns), divided=places)
        self.same([Plan(gone, range_of(gone)).is_right, Plan(gone, range_of(gone)[::-1]).is_right], [True, False])


if __name__ == "__main__":
    unittest.main()
