"""What holds of the whole program: names and arguments, kinds, and that arguments stay as they are."""

import importlib
import inspect
import unittest

from helpers import Case, values
from nearestsays.book import Book, is_book
from nearestsays.counting import count, nth, rank
from nearestsays.desk import Desk
from nearestsays.dividing import candidates, fewest_divided, shows_divided
from nearestsays.exchange import Exchange, unlike
from nearestsays.hands import are_apart, joining, mixed, together
from nearestsays.heard import Hearings, contradiction, shows_contradiction
from nearestsays.judge import broken, judge, shows, third
from nearestsays.least import alike, closest, least, needless, parted
from nearestsays.live import Live
from nearestsays.orders import least_order, orders, ready
from nearestsays.places import Place
from nearestsays.plans import Plan
from nearestsays.rings import is_ring, ring
from nearestsays.room import barred, least_room, room, shows_barred, within
from nearestsays.rounds import chain, rounds, shows_rounds
from nearestsays.standings import is_right, is_strict, may_come, right_standings, strict_standings, table_at, third_at
from nearestsays.tables import Table
from nearestsays.texts import read_plan, read_table, show_plan, show_table
from small import ringed
from test_exchange import plain, two
from test_plans import ALIKE, CHAIN
from test_plans import chain as four

# The arguments as the document writes them: `*` stands for what is passed by name alone.
ARGUMENTS = {
    "places": {"Place": "*names", "Place.read": "text", "Place.of": "value", "Place.head": "k", "Place.is_ahead": "b"},
    "tables": {
        "Table": "columns rows", "Table.plain": "column answers", "Table.put": "place **cells", "Table.take": "place", "Table.__call__": "place",
        "Table.told": "place *columns", "Table.speaker": "place column", "Table.cells": "", "Table.update": "rows", "Table.copy": "", "Table.editing": "",
        "Table.attempt": "ask",
    },
    "least": {"needless": "table", "least": "table", "parted": "one other", "alike": "one other", "closest": "table wished"},
    "steps": {"Step.on": "table"},
    "exchange": {
        "Exchange": "first second * divided", "Exchange.first_copy": "", "Exchange.second_copy": "", "Exchange.kind": "place column",
        "Exchange.above": "place column", "Exchange.number_of": "place column", "Exchange.back": "", "Exchange.divide": "*places", "unlike": "exchange",
    },
    "plans": {
        "Plan": "exchange numbers", "Plan.head": "k", "Plan.begins": "other", "Plan.back": "", "Plan.table_behind": "", "Plan.tables": "", "Plan.left": "",
    },
    "judge": {
        "broken": "plan", "third": "plan", "judge": "plan", "shows": "exchange paper", "Verdict": "plan", "Strict": "plan spots",
        "Broken": "plan moment place column heard", "Verdict.paper": "",
    },
    "rings": {"ring": "exchange", "is_ring": "exchange thing"},
    "orders": {"ready": "plan", "orders": "exchange", "least_order": "exchange"},
    "counting": {"count": "exchange", "nth": "exchange k", "rank": "plan"},
    "rounds": {"rounds": "exchange", "chain": "exchange", "shows_rounds": "exchange rounds chain"},
    "dividing": {"candidates": "exchange", "fewest_divided": "exchange", "shows_divided": "exchange places reasons"},
    "standings": {
        "table_at": "exchange standing", "third_at": "exchange standing", "is_right": "exchange standing", "is_strict": "exchange standing",
        "may_come": "exchange standing", "right_standings": "exchange", "strict_standings": "exchange",
    },
    "book": {"Book": "exchange", "Book.is_stuck": "standing", "Book.walks": "", "is_book": "exchange thing"},
    "room": {
        "room": "plan", "least_room": "exchange", "within": "exchange most", "barred": "exchange most", "shows_barred": "exchange most thing",
    },
    "hands": {"together": "one other", "joining": "one other", "are_apart": "one other", "mixed": "one other turns"},
    "heard": {
        "Hearings": "exchange", "Hearings.hear": "*rows", "Hearings.surely_done": "moment", "Hearings.surely_left": "moment",
        "contradiction": "exchange rows", "shows_contradiction": "exchange rows thing",
    },
    "live": {
        "Live": "table * rule", "Live.__call__": "place", "Live.told": "place *columns", "Live.table_copy": "", "Live.set_rule": "value",
        "Live.begin": "second * divided", "Live.step": "number", "Live.back": "", "Live.finish": "", "Live.turn_to": "third * divided",
        "Live.exchanged": "second deed", "Live.trial": "", "Live.tried": "deed",
    },
    "texts": {"show_table": "table", "show_plan": "plan", "read_table": "text", "read_plan": "text"},
    "desk": {"Desk": "", "Desk.say": "line", "Desk.run": "*lines", "Desk.table_copy": ""},
}

SIGNS = {inspect.Parameter.VAR_POSITIONAL: "*", inspect.Parameter.VAR_KEYWORD: "**"}


def arguments(thing):
    """The names of the parameters behind `self`, with their signs."""
    found = []
    by_name = False
    for parameter in inspect.signature(thing).parameters.values():
        if parameter.kind is inspect.Parameter.KEYWORD_ONLY and not by_name:
            found.append("*")
            by_name = True
        if parameter.name != "self":
            found.append(SIGNS.get(parameter.kind, "") + parameter.name)
    return " ".join(found)


def taken_apart(value):
    """What a value consists of, down to numbers and strings."""
    if isinstance(value, (list, tuple)):
        return (type(value).__name__, [taken_apart(part) for part in value])
    if isinstance(value, dict):
        return [(taken_apart(key), taken_apart(value[key])) for key in value]
    if type(value).__module__.startswith("nearestsays."):
        return (type(value).__name__, taken_apart(vars(value)))
    return (type(value).__name__, repr(value))


class Names(Case):
    def test_each_name_stands_in_its_file_with_its_arguments(self):
        for name, things in ARGUMENTS.items():
            module = importlib.import_module(f"nearestsays.{name}")
            for path, wanted in things.items():
                thing = module
                for part in path.split("."):
                    thing = getattr(thing, part)
                self.same(arguments(thing), wanted)
                self.same(thing.__module__, f"nearestsays.{name}")

    def test_numbers_of_classes(self):
        self.same([Place.MOST, Table.MOST, Table.WIDEST, Book.MOST], [8, 40, 3, 2000])

    def test_the_default_values(self):
        self.same([Table(["r"]).places, Exchange(Table(["r"]), Table(["r"])).divided, Plan(four()).numbers, Live(Table(["r"])).rule], [(), (), (), "right"])


class Kinds(Case):
    def things(self):
        """An object of each class; none equals one of another."""
        exchange = four()
        plan = Plan(exchange, [1])
        return [
            Place("other"), exchange.first_copy(), exchange, plan, judge(plan), judge(Plan(exchange, [0])), Book(exchange), Hearings(exchange),
            Live(exchange.first_copy()), Desk(), *exchange.steps[:2], *two({"/a": {"r": "x", "w": "x"}}, {"/a": {"r": "y"}}).steps,
            *two({"/a": {"r": "x", "w": "x"}}, {"/a": {"r": "y"}}, ["/a"]).steps,
        ]

    def test_an_object_equals_nothing_of_another_kind(self):
        things = self.things()
        for at, one in enumerate(things):
            for other in [*things[:at], *things[at + 1:], *values(two({}, {"/z": {"r": "x"}}))]:
                self.assertIs(one == other, False, f"{one!r} {other!r}")
                self.assertIs(one != other, True)

    def test_whether_is_answered_by_true_and_false(self):
        exchange = four()
        plan = Plan(exchange, [1, 0])
        table = exchange.first_copy()
        rows = [[("/p", "r", "7")]]
        for answer in [
            "/p" in Place("p"), Place("a").is_ahead(Place("b")), Place("a") == Place("a"), "/p" in table, table == table, bool(table), alike(table, table),
            exchange == exchange, plan.begins(plan), plan == plan, plan.is_whole, plan.is_strict, plan.is_right, judge(plan) == judge(plan),
            shows(exchange, judge(plan).paper()), is_ring(exchange, ()), shows_rounds(exchange, rounds(exchange), chain(exchange)),
            shows_divided(exchange, (), []), is_right(exchange, ()), is_strict(exchange, ()), () in Book(exchange), Book(exchange).is_stuck(()),
            Book(exchange) == Book(exchange), is_book(exchange, ()), shows_barred(exchange, 2, ((),)), are_apart(exchange, plain(CHAIN[0], CHAIN[0])),
            shows_contradiction(exchange, rows, (0, 0)),
        ]:
            self.assertIs(type(answer), bool)


class Unchanged(Case):
    def stays(self, call, *args, **named):
        before = taken_apart([list(args), named])
        found = call(*args, **named)
        if inspect.isgenerator(found):
            found = list(found)
        self.assertEqual(taken_apart([list(args), named]), before, f"{call}")
        return found

    def test_places_and_tables(self):
        rows = {"/a": {"r": "x"}, "/a/b": {"r": "y"}}
        columns = ["r"]
        table = self.stays(Table, columns, rows)
        self.stays(Table.plain, "r", {"/a": "x"})
        self.stays(table.update, {"/c": {"r": "z"}})
        self.stays(lambda more: table | more, {"/d": {"r": "z"}})
        for call in (needless, least, show_table):
            self.stays(call, table)
        for call in (parted, alike, closest):
            self.stays(call, table, Table.plain("r", {"/": "x"}))
        self.stays(Place.of, Place("a"))

    def test_exchanges_and_plans(self):
        for exchange in (four(), plain(*ALIKE), two({"/a": {"r": "x"}}, {"/a/b": {"r": "x", "w": "y"}}, ["/a"])):
            self.stays(Exchange, exchange.first_copy(), exchange.second_copy(), divided=list(exchange.divided))
            for call in (unlike, ring, orders, least_order, count, rounds, chain, candidates, fewest_divided, Book, Hearings):
                self.stays(call, exchange)
            self.stays(nth, exchange, 0)
            numbers = list(least_order(exchange).numbers)
            plan = self.stays(Plan, exchange, numbers)
            for call in (broken, third, judge, ready, rank, show_plan):
                self.stays(call, plan)
            for method in (exchange.back, exchange.divide, exchange.first_copy, plan.back, plan.left, plan.tables, plan.table_behind, judge(plan).paper):
                self.stays(lambda owner: method(), method.__self__)
            self.stays(lambda owner: owner + 0 if 0 not in owner.numbers else owner.head(1), plan)
            self.stays(lambda owner: [~step for step in owner.steps] + [step.on(owner.first_copy()) for step in owner.steps], exchange)
            for step in exchange.steps:
                self.stays(step.on, exchange.first_copy())

    def test_checks(self):
        exchange = four()
        self.stays(shows, exchange, judge(Plan(exchange, [1, 2])).paper())
        self.stays(is_ring, ringed(), list(ringed().sentences))
        self.stays(shows_rounds, exchange, rounds(exchange), chain(exchange))
        self.stays(shows_divided, ringed(), *fewest_divided(ringed()))
        self.stays(is_book, exchange, list(Book(exchange).rows))
        self.stays(shows_barred, exchange, 2, [()])
        self.stays(shows_contradiction, exchange, [[("/p", "r", "7")]], (0, 0))

    def test_standings_and_rooms(self):
        exchange = four()
        for call in (table_at, third_at, is_right, is_strict, may_come):
            self.stays(call, exchange, (1,))
        for call in (right_standings, strict_standings, least_room):
            self.stays(call, exchange)
        self.stays(room, Plan(exchange, [1, 0]))
        self.stays(within, exchange, 2)
        self.stays(barred, exchange, 2)
        book = Book(exchange)
        self.stays(lambda owner: [list(owner.walks()), owner.is_stuck(()), () in owner, owner.rows], book)

    def test_hands_hearings_live_tables_and_texts(self):
        base = Table.plain("r", {"/": "a"})
        one, other = Exchange(base, Table.plain("r", {"/x/y": "d"})), Exchange(base, Table.plain("r", {"/": "a", "/x": "c"}))
        for call in (together, joining, are_apart):
            self.stays(call, one, other)
        self.stays(mixed, Plan(one, [1, 0]), Plan(other, [0]), [0, 1, 0])
        self.stays(contradiction, one, [[("/x", "r", "a")], [(Place("x", "y"), "r", "d")]])
        heard = Hearings(one)
        self.stays(heard.hear, (Place("x"), "r", "a"))
        self.stays(lambda owner: [owner.surely_done(0), owner.surely_left(0), owner.rows, len(owner)], heard)
        live = self.stays(Live, base)
        self.stays(live.begin, one.second_copy(), divided=["/"])
        self.stays(lambda owner: [owner("/x"), owner.told("/x"), owner.table_copy(), owner.exchange, owner.done, owner.rule, owner.log], live)
        self.stays(live.turn_to, other.second_copy(), divided=[])
        live.finish()
        self.stays(live.exchanged, base, lambda going: None)
        self.stays(read_table, "columns r")
        self.stays(read_plan, "columns r\norder")


if __name__ == "__main__":
    unittest.main()
