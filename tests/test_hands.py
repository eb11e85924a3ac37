import unittest
from itertools import permutations
from random import Random

from helpers import Case, rows_of, values
from nearestsays.errors import BadPlan, Clash, TooMany, UnlikeColumns
from nearestsays.exchange import Exchange
from nearestsays.hands import are_apart, joining, mixed, together
from nearestsays.orders import orders
from nearestsays.places import Place
from nearestsays.plans import Plan
from nearestsays.tables import Table
from small import PLACES, strict_numbers
from test_exchange import plain, two

CALLS = (together, joining, are_apart)

BASE = {"/": {"r": "a"}, "/a": {"r": "b", "w": "c"}, "/b": {"w": "d"}, "/k": {"r": "e"}}


def hands():
    """The exchanges of the document's example."""
    base = Table.plain("r", {"/": "a"})
    return Exchange(base, Table.plain("r", {"/x/y": "d"})), Exchange(base, Table.plain("r", {"/": "a", "/x": "c"}))


def pair(divided=((), ())):
    """Two exchanges of one table that take, edit and put rows at unlike places."""
    one = {"/": {"r": "a"}, "/a": {"r": "z"}, "/b": {"w": "d"}, "/k": {"r": "e"}, "/a/x": {"r": "u", "w": "v"}}
    other = {"/": {"w": "t"}, "/a": BASE["/a"], "/k": {"r": "e"}, "/c": {"w": "s"}}
    return two(BASE, one, divided[0]), two(BASE, other, divided[1])


def some_pair(random, columns):
    """Two exchanges of one small table with changes at unlike places."""
    def cells():
        return {column: random.choice("xy") for column in columns if random.random() < 0.6}

    base = {place: row for place in random.sample(PLACES, 5) if (row := cells())}
    spots = random.sample(PLACES, 6)
    found = []
    for part in (spots[:3], spots[3:]):
        rows = {**base, **{place: cells() for place in part}}
        second = Table(columns, {place: row for place, row in rows.items() if row})
        changed = [place for place in part if base.get(place, {}) != rows[place]]
        found.append(Exchange(Table(columns, base), second, divided=[place for place in changed if random.random() < 0.3]))
    return found


def some_pairs(seed, many, columns=("r", "w")):
    random = Random(seed)
    return [some_pair(random, list(columns)) for _ in range(many)]


def places_of(exchange):
    return {step.place for step in exchange.steps}


class Together(Case):
    def test_the_example(self):
        one, other = hands()
        self.same([one.sentences, other.sentences, [str(step) for step in together(one, other).steps], joining(one, other)],
                  [((1, 0, "r", "old/new"),), (), ["take /", "put /x", "put /x/y"], [(1, 0, "r", "old/new"), (2, 1, "r", "new/new")]])

    def test_the_changes_of_both(self):
        one, other = pair()
        whole = together(one=one, other=other)
        self.same(rows_of(whole.first_copy()), BASE)
        self.same(rows_of(whole.second_copy()),
                  {"/": {"w": "t"}, "/a": {"r": "z"}, "/k": {"r": "e"}, "/a/x": {"r": "u", "w": "v"}, "/c": {"w": "s"}})
        self.same([str(step) for step in whole.steps], ["edit /", "edit /a", "put /a/x", "take /b", "put /c"])
        self.assertEqual(together(other, one), whole)

    def test_divided_where_one_of_them_is(self):
        one, other = pair((["/a"], ["/", "/b"]))
        whole = together(one, other)
        self.same([whole.divided, [str(step) for step in whole.steps]],
                  [("/", "/a", "/b"), ["part / r", "part / w", "part /a r", "part /a w", "put /a/x", "part /b w", "put /c"]])

    def test_without_steps(self):
        one, other = pair()
        nothing = two(BASE, BASE)
        self.assertEqual(together(one, nothing), one)
        self.assertEqual(together(nothing, other), other)
        self.assertEqual(together(nothing, nothing), nothing)
        self.same([joining(one, nothing), are_apart(nothing, nothing)], [[], True])

    def test_against_row_by_row_changes(self):
        seen = 0
        for columns in ("r", "rw", "rwz"):
            for one, other in some_pairs(220, 60, columns):
                whole = together(one, other)
                table = one.second_copy()
                for step in other.steps:
                    table = step.on(table)
                self.assertEqual(whole, Exchange(one.first_copy(), table, divided=one.divided + other.divided))
                self.same(places_of(whole), places_of(one) | places_of(other))
                self.same(len(whole), len(one) + len(other))
                mine = [number for number, step in enumerate(whole.steps) if step.place in places_of(one)]
                wanted = [sentence for sentence in whole.sentences if (sentence[0] in mine) != (sentence[1] in mine)]
                self.same(joining(one, other), wanted)
                self.assertIs(are_apart(one=one, other=other), not wanted)
                seen += len(wanted) > 0
        self.assertGreater(seen, 50)

    def test_both_exchanges_stay(self):
        one, other = pair((["/a"], ["/"]))
        for call in CALLS:
            call(one, other)
        mixed(Plan(one, [0]), Plan(other, [1, 0]), [1, 0, 1])
        self.assertEqual([one, other], list(pair((["/a"], ["/"]))))

    def test_joining_is_a_new_list(self):
        one, other = hands()
        joining(one, other).clear()
        self.same(len(joining(one=one, other=other)), 2)


class Facts(Case):
    def mixes(self, one, other):
        for turns in sorted(set(permutations([0] * len(one) + [1] * len(other)))):
            yield mixed(one, other, turns)

    def test_apart_every_mix_of_strict_plans_is_strict(self):
        random = Random(221)
        seen = 0
        for one, other in some_pairs(222, 200):
            plans = [Plan(exchange, strict_numbers(exchange, random)) for exchange in (one, other)]
            if are_apart(one, other) and len(plans[0]) + len(plans[1]) <= 6:
                for plan in self.mixes(*plans):
                    self.assertIs(plan.is_strict, True)
                seen += min(len(one), len(other)) > 0
        self.assertGreater(seen, 10)

    def test_joined_some_mix_of_two_orders_is_not(self):
        seen = 0
        for one, other in some_pairs(223, 120):
            if not are_apart(one, other) and len(one) + len(other) <= 5 and list(orders(one)) and list(orders(other)):
                found = [plan for mine in orders(one) for theirs in orders(other) for plan in self.mixes(mine, theirs) if not plan.is_strict]
                self.assertGreater(len(found), 0)
                seen += 1
        self.assertGreater(seen, 20)


class Refused(Case):
    def refuses(self, error, attributes, one, other):
        for call in CALLS:
            self.refused(error, attributes, call, one, other)
        for turns in ([], [0], None, 7, [True]):
            self.refused(error, attributes, mixed, Plan(one), Plan(other), turns)

    def test_unlike_columns(self):
        self.refuses(UnlikeColumns, {}, plain({}, {"/a": "x"}), two({}, {"/b": {"r": "x"}}))
        turned = Exchange(Table(["w", "r"]), Table(["w", "r"], {"/b": {"r": "x"}}))
        self.refuses(UnlikeColumns, {}, two({}, {"/a": {"r": "x"}}), turned)
        self.refuses(UnlikeColumns, {}, plain({"/z": "x"}, {"/a": "x"}), two({}, {"/a": {"r": "x"}}))

    def test_first_tables_that_differ(self):
        for first, place in [({"/b": "x", "/d": "z"}, "/c"), ({"/b": "x", "/c": "x"}, "/c"), ({}, "/b"), ({"/b": "y", "/c": "y"}, "/b"),
                             ({"/": "x", "/b": "x"}, "/"), ({"/b": "x", "/c": "y", "/c/a": "x"}, "/c/a"), ({"/b": "x", "/b/z": "u"}, "/b/z")]:
            base = {"/b": "x", "/c": "y"}
            self.refuses(Clash, {"place": place}, plain(base, {**base, "/one": "x"}), plain(first, {**first, "/two": "x"}))
            self.refuses(Clash, {"place": place}, plain(first, {}), plain(base, {}))

    def test_both_have_a_step(self):
        base = {"/a": "x", "/b": "x", "/b0": "x"}
        self.refuses(Clash, {"place": "/b"}, plain(base, {"/a": "x", "/b": "y"}), plain(base, {"/a": "x", "/b": "z", "/b0": "y"}))
        self.refuses(Clash, {"place": "/a"}, plain(base, {}), plain(base, {}))
        self.refuses(Clash, {"place": "/b"}, plain(base, {**base, "/b": "y"}), plain(base, {**base, "/b": "y"}))
        self.refuses(Clash, {"place": "/z"}, plain({}, {"/z": "x", "/zz": "x"}), plain({}, {"/y": "x", "/z": "u", "/zz": "x"}))

    def test_both_have_a_step_in_unlike_columns_of_a_divided_place(self):
        one = two({"/a": {"r": "x", "w": "x"}}, {"/a": {"r": "y", "w": "x"}}, ["/a"])
        other = two({"/a": {"r": "x", "w": "x"}}, {"/a": {"r": "x", "w": "y"}}, ["/a"])
        self.refuses(Clash, {"place": "/a"}, one, other)

    def test_first_tables_ahead_of_steps(self):
        self.refuses(Clash, {"place": "/z"}, plain({"/a": "x", "/z": "x"}, {}), plain({"/a": "x"}, {}))

    def test_too_many(self):
        base = {f"/b{number}": "x" for number in range(10, 40)}
        one, other = ({f"/{sign}{number}": "x" for number in range(5)} for sign in "xy")
        self.same(len(together(plain(base, {**base, **one}), plain(base, {**base, **other}))), 10)
        more = {**other, "/z": "x"}
        self.refuses(TooMany, {"most": 40}, plain(base, {**base, **one}), plain(base, {**base, **more}))
        # The second table alone would have forty rows, but forty-one places have one in either.
        less = {place: "x" for place in list(base)[1:]}
        self.refuses(TooMany, {"most": 40}, plain(base, {**less, **one}), plain(base, {**base, **more}))
        self.refuses(Clash, {"place": "/b10"}, plain(base, {**less, **one}), plain(base, {**less, **more}))
        self.refuses(Clash, {"place": "/y"}, plain(base, {**base, **one}), plain({**base, "/y": "x"}, {**base, **more}))


class Mixed(Case):
    def plans(self):
        one, other = hands()
        return Plan(one, [1, 0]), Plan(other, [0])

    def test_the_example(self):
        one, other = self.plans()
        plan = mixed(one, other, [0, 1, 0])
        self.same([plan.numbers, type(plan)], [(2, 1, 0), Plan])
        self.assertEqual(plan.exchange, together(one.exchange, other.exchange))

    def test_lists_and_tuples_and_steps_left(self):
        one, other = self.plans()
        for turns, wanted in {(): (), (0,): (2,), (1,): (1,), (0, 0): (2, 0), (1, 0): (1, 2), (0, 0, 1): (2, 0, 1), (1, 0, 0): (1, 2, 0)}.items():
            self.same(mixed(one, other, turns).numbers, wanted)
            self.same(mixed(turns=list(turns), other=other, one=one).numbers, wanted)

    def test_what_is_no_list_or_tuple(self):
        one, other = self.plans()
        for value in [value for value in values(one.exchange) if not isinstance(value, (list, tuple))]:
            self.refused(BadPlan, {"at": None}, mixed, one, other, value)

    def test_the_first_index_that_is_none(self):
        one, other = self.plans()
        for value in [True, False, None, 2, -1, "0", "", (0,), [1], (), {}, Place("a"), one]:
            self.refused(BadPlan, {"at": 0}, mixed, one, other, [value])
            self.refused(BadPlan, {"at": 2}, mixed, one, other, (0, 1, value, None))
            self.refused(BadPlan, {"at": 1}, mixed, one, other, [1, value, 1])

    def test_no_step_left(self):
        one, other = self.plans()
        for turns, at in {(1, 1): 1, (0, 0, 0): 2, (0, 1, 1, 0): 2, (0, 1, 0, 0): 3, (0, 1, 0, 7): 3, (1, 0, 1, None): 2}.items():
            self.refused(BadPlan, {"at": at}, mixed, one, other, turns)
        nothing = Plan(other.exchange)
        self.refused(BadPlan, {"at": 0}, mixed, one, nothing, [1])
        self.same(mixed(one, nothing, [0, 0]).numbers, (2, 0))

    def test_plans_that_are_not_strict(self):
        one, other = hands()
        plan = mixed(Plan(one, [0, 1]), Plan(other, [0]), [0, 1, 0])
        self.same([plan.numbers, plan.is_strict], [(0, 1, 2), False])
        self.same(mixed(Plan(one, [0]), Plan(other, [0]), [1, 0]).is_strict, False)

    def test_the_steps_of_each_in_its_own_order(self):
        random = Random(224)
        for columns in ("r", "rw", "rwz"):
            for one, other in some_pairs(225, 60, columns):
                plans = []
                for exchange in (one, other):
                    numbers = list(range(len(exchange)))
                    random.shuffle(numbers)
                    plans.append(Plan(exchange, numbers[:random.randint(0, len(numbers))]))
                turns = [0] * random.randint(0, len(plans[0])) + [1] * random.randint(0, len(plans[1]))
                random.shuffle(turns)
                plan = mixed(*plans, turns)
                heads = [[str(mine.exchange.steps[number]) for number in mine.numbers] for mine in plans]
                wanted = [heads[turn].pop(0) for turn in turns]
                self.same([str(plan.exchange.steps[number]) for number in plan.numbers], wanted)

    def test_the_turns_stay(self):
        turns = [0, 1, 0]
        mixed(*self.plans(), turns)
        self.same(turns, [0, 1, 0])


if __name__ == "__main__":
    unittest.main()
