import unittest
from random import Random

from helpers import NO_PLACES, Case, forty, values
from nearestsays.errors import (
    BadColumn, BadPlace, BadRule, NoExchange, NoStep, Ringed, TableError, ThirdAnswer, TooEarly, TooMany, Underway, UnlikeColumns,
)
from nearestsays.exchange import Exchange
from nearestsays.live import Live
from nearestsays.orders import least_order
from nearestsays.places import Place
from nearestsays.plans import Plan
from nearestsays.rings import is_ring
from nearestsays.standings import may_come, table_at, third_at
from nearestsays.tables import Table
from small import few_steps, is_closed, ringed
from test_book import trap, traps
from test_exchange import plain, two
from test_plans import ALIKE, chain


def alike():
    return plain(*ALIKE)


def live_of(exchange, rule="right"):
    """A live table with the first table of an exchange."""
    return Live(exchange.first_copy(), rule=rule)


def begun(exchange, rule="right"):
    """A live table on which an exchange is under way."""
    live = live_of(exchange, rule)
    live.begin(exchange.second_copy(), divided=exchange.divided)
    return live


def state(live):
    """All that can be seen of a live table."""
    return [live.table_copy(), live.exchange, live.done, live.rule, live.log]


def late_ring():
    """Three steps; the ring of the last two can be told wrongly when the first one is done."""
    first = {"/a": {"r": "0", "w": "z"}, "/a/a0": {"w": "0"}, "/a/a0/b": {"r": "y"}}
    second = {"/": {"r": "x"}, "/a": {"r": "0", "w": "z"}, "/a/a0": {"r": "z"}, "/a/a0/b": {"w": "y"}}
    return two(first, second)


class Oops(Exception):
    """An error of a deed."""


def some():
    """Small exchanges with steps, of one to three columns."""
    for columns, seed in (("r", 400), ("rw", 401), ("rwz", 402)):
        yield from [exchange for exchange in few_steps(seed, 60, 5, columns, 5) if len(exchange)]


class Standing(Case):
    def test_the_example(self):
        live = Live(alike().first_copy())
        self.assertTrue(live.begin(alike().second_copy()) == alike())
        self.same([live.step(1), live("/s/r"), live.done], [2, ("x",), (1,)])
        with self.assertRaises(ThirdAnswer) as caught:
            live.step(0)
        self.same(vars(caught.exception), {"place": "/s/r", "column": "r", "heard": "q"})
        self.assertIs(type(caught.exception.__cause__), TooEarly)
        self.same(vars(caught.exception.__cause__), {"number": 1, "ahead": 2})
        self.same([live.finish(), live.exchange, live("/s"), live.log], [(2, 0), None, ("q",), ("begin", "step 1", "step 2", "step 0", "end")])

    def test_told(self):
        live = Live(Table(["read", "write"], {"/": {"read": "all"}, "/docs": {"write": "ann"}}))
        self.same([live("/docs/a"), live(Place("docs")), live.told("/docs"), live.told("/docs", "write", "read", "write"), live.told(place="/z")],
                  [("all", "ann"), ("all", "ann"), ("all", "ann"), ("ann", "all", "ann"), ("all", None)])
        self.same(live(place="/docs"), ("all", "ann"))
        for value in NO_PLACES:
            self.refused(BadPlace, {"value": value}, live, value)
            self.refused(BadPlace, {"value": value}, live.told, value, "nocol")
        self.refused(BadColumn, {"value": "nocol"}, live.told, "/docs", "read", "nocol", None)

    def test_it_keeps_copies(self):
        table, second = alike().first_copy(), alike().second_copy()
        live = Live(table)
        table.take("/s")
        live.begin(second)
        second.take("/s/r")
        live.table_copy().take("/")
        live.exchange.first_copy().take("/")
        self.assertEqual(live.exchange, alike())
        self.assertEqual(live.table_copy(), alike().first_copy())
        live.finish()
        self.assertEqual(live.table_copy(), alike().second_copy())

    def test_at_first(self):
        for live in (Live(Table(["r"])), Live(table=Table(["r"]), rule="right")):
            self.same(state(live)[1:], [None, (), "right", ()])
        self.same(Live(Table(["r"]), rule="strict").rule, "strict")
        with self.assertRaises(TypeError):
            Live(Table(["r"]), "right")

    def test_properties_without_setters(self):
        live = begun(alike())
        for name in ("exchange", "done", "log"):
            with self.assertRaises(AttributeError):
                setattr(live, name, None)

    def test_each_moment_stands_as_its_steps_tell(self):
        random = Random(403)
        for exchange in some():
            live = begun(exchange)
            while live.exchange is not None:
                done = live.done
                self.assertEqual(live.table_copy(), table_at(exchange, tuple(sorted(done))))
                fit = may_come(exchange, tuple(sorted(done)))
                if not fit or random.random() < 0.2:
                    if not done or random.random() < 0.2:
                        break
                    self.same([live.back(), live.done], [done[-1], done[:-1]])
                else:
                    number = random.choice(fit)
                    self.same(live.step(number), len(exchange) - len(done) - 1)


class Rules(Case):
    WRONG = [None, True, False, 0, 1, "", "Right", "right ", "stric", ["right"], ("right",), {}, {"right": "strict"}, Place("right"), alike()]

    def set(self, live, value):
        live.rule = value

    def test_by_the_constructor(self):
        for value in self.WRONG:
            with self.assertRaises(BadRule) as caught:
                Live(Table(["r"]), rule=value)
            self.assertIs(caught.exception.value, value)

    def test_by_setting_it_both_ways(self):
        live = live_of(alike())
        for rule in ("strict", "strict", "right"):
            live.rule = rule
            self.same([live.rule, live.log], [rule, ()])
        for rule in ("strict", "right", "right"):
            self.same([live.set_rule(value=rule), live.rule], [None, rule])

    def test_bad_rules_then_underway(self):
        for live in (live_of(alike()), begun(alike()), begun(alike(), "strict")):
            before = state(live)
            for call in (live.set_rule, lambda value: self.set(live, value)):
                for value in self.WRONG:
                    with self.assertRaises(BadRule) as caught:
                        call(value)
                    self.assertIs(caught.exception.value, value)
                if live.exchange is not None:
                    for rule in ("right", "strict"):
                        self.refused(Underway, {}, call, rule)
            self.assertEqual(state(live), before)

    def test_behind_the_end_it_can_be_set_again(self):
        live = begun(alike())
        live.finish()
        live.rule = "strict"
        live.begin(alike().first_copy())
        self.same([live.rule, live.log], ["strict", ("begin", "step 0", "step 2", "step 1", "end", "begin")])


class Begin(Case):
    def test_it_returns_the_exchange(self):
        live = live_of(ringed())
        exchange = live.begin(second=ringed().second_copy(), divided=["/p", "/p"])
        self.assertEqual(exchange, ringed().divide("/p"))
        self.assertEqual(live.exchange, exchange)
        self.same([live.done, live.log], [(), ("begin",)])

    def test_underway_ahead_of_all(self):
        live = begun(alike())
        before = state(live)
        for second, divided in [(alike().second_copy(), ()), (Table(["w"]), ()), (forty(), [None]), (alike().second_copy(), ["/zz"])]:
            self.refused(Underway, {}, live.begin, second, divided=divided)
        self.assertEqual(state(live), before)

    def test_as_exchange(self):
        live = Live(forty())
        for second, divided, error, attributes in [
            (Table(["w"]), [None], UnlikeColumns, {}), (Table.plain("r", {"/z": "x"}), ["zz"], TooMany, {"most": 40}),
            (Table(["r"]), ["/p10", "p"], BadPlace, {"value": "p"}), (forty(), ["/p10"], NoStep, {"value": "/p10"}),
        ]:
            self.refused(error, attributes, live.begin, second, divided=divided)
            self.assertEqual(state(live), [forty(), None, (), "right", ()])

    def test_without_steps_it_is_over_at_once(self):
        live = live_of(alike())
        exchange = live.begin(alike().first_copy())
        self.same([len(exchange), live.exchange, live.done, live.log], [0, None, (), ("begin", "end")])
        live.begin(alike().second_copy())
        self.same(live.log, ("begin", "end", "begin"))


class Step(Case):
    def test_numbers_that_are_none(self):
        live = begun(alike())
        live.step(2)
        before = state(live)
        for value in [3, 4, -1, 2, True, False, None, "0", (0,), [0], {}, 100, Place("s"), alike().steps[0]]:
            with self.assertRaises(NoStep) as caught:
                live.step(value)
            self.assertIs(caught.exception.value, value)
        self.assertEqual(state(live), before)

    def test_no_exchange(self):
        live = begun(alike())
        live.finish()
        for value in (0, 7, None):
            self.refused(NoExchange, {}, live.step, value)
        self.refused(NoExchange, {}, live_of(alike()).step, 0)

    def test_the_last_step_ends_the_exchange(self):
        live = begun(alike())
        self.same([live.step(number=2), live.step(1), live.step(0)], [2, 1, 0])
        self.same([live.exchange, live.done, live.log], [None, (), ("begin", "step 2", "step 1", "step 0", "end")])
        self.assertEqual(live.table_copy(), alike().second_copy())

    def test_third_answers(self):
        live = begun(chain())
        for number, told, cause in [(0, ("/p/q", "r", None), (0, 1)), (2, ("/p/q/r", "r", "1"), (2, 1))]:
            with self.assertRaises(ThirdAnswer) as caught:
                live.step(number)
            self.same(vars(caught.exception), dict(zip(("place", "column", "heard"), told)))
            self.same(vars(caught.exception.__cause__), dict(zip(("number", "ahead"), cause)))
        self.same([live.done, live.log], [(), ("begin",)])

    def test_both_rules_against_the_standings(self):
        early = third = 0
        for exchange in [*some(), *traps()]:
            for rule in ("right", "strict"):
                live = begun(exchange, rule)
                random = Random(len(exchange))
                while live.exchange is not None:
                    done = live.done
                    fit = []
                    for number in range(len(exchange)):
                        if number in done:
                            continue
                        more = tuple(sorted((*done, number)))
                        missing = sorted({s[0] for s in exchange.sentences if s[1] == number} - set(done))
                        wrong = third_at(exchange, more)
                        before = state(live)
                        if rule == "strict" and missing:
                            self.refused(TooEarly, {"number": number, "ahead": missing[0]}, live.step, number)
                            early += 1
                        elif rule == "right" and wrong:
                            with self.assertRaises(ThirdAnswer) as caught:
                                live.step(number)
                            self.same(vars(caught.exception), dict(zip(("place", "column", "heard"), wrong)))
                            first = next(s for s in exchange.sentences if s[1] in more and s[0] not in more)
                            self.assertIs(type(caught.exception.__cause__), TooEarly)
                            self.same(vars(caught.exception.__cause__), {"number": first[1], "ahead": first[0]})
                            third += 1
                        else:
                            fit.append(number)
                        self.assertEqual(state(live), before)
                    if not fit:
                        break
                    live.step(random.choice(fit))
        self.assertGreater(early, 100)
        self.assertGreater(third, 100)

    def test_the_cause_is_of_the_first_sentence_not_of_the_step(self):
        live = begun(alike())
        live.step(1)
        self.assertIs(is_closed(alike(), live.done), False)
        with self.assertRaises(ThirdAnswer) as caught:
            live.step(0)
        self.same(vars(caught.exception.__cause__), {"number": 1, "ahead": 2})

    def test_strict_refuses_what_right_lets(self):
        self.same(begun(alike()).step(1), 2)
        self.refused(TooEarly, {"number": 1, "ahead": 0}, begun(alike(), "strict").step, 1)

    def test_the_rule_does_not_look_ahead(self):
        live = begun(trap())
        self.same(live.step(0), 2)
        for number in (1, 2):
            with self.assertRaises(ThirdAnswer):
                live.step(number)
        self.same([live.back(), live.step(1), live.step(2), live.step(0), live.exchange], [0, 2, 1, 0, None])


class Back(Case):
    def test_no_exchange_then_no_step(self):
        self.refused(NoExchange, {}, live_of(alike()).back)
        live = begun(alike())
        self.refused(NoStep, {"value": None}, live.back)
        live.step(2)
        self.same([live.back(), live.done], [2, ()])
        self.refused(NoStep, {"value": None}, live.back)
        self.same(live.log, ("begin", "step 2", "back 2"))
        self.assertEqual(live.table_copy(), alike().first_copy())

    def test_back_to_the_turn_at_most(self):
        live = begun(alike())
        live.step(1)
        stood = live.table_copy()
        live.turn_to(alike().first_copy())
        self.refused(NoStep, {"value": None}, live.back)
        self.assertEqual(live.table_copy(), stood)

    def test_all_the_way(self):
        for exchange in some():
            live = begun(exchange)
            way = []
            while len(way) < len(exchange) - 1 and may_come(exchange, tuple(sorted(way))):
                way.append(may_come(exchange, tuple(sorted(way)))[-1])
                live.step(way[-1])
            self.same([live.back() for _ in way], way[::-1])
            self.assertEqual(live.table_copy(), exchange.first_copy())
            self.assertEqual(live.exchange, exchange)


class Finish(Case):
    def test_no_exchange(self):
        self.refused(NoExchange, {}, live_of(alike()).finish)

    def test_against_the_least_order_of_what_is_left(self):
        ringed_too = 0
        for exchange in [*some(), *traps(), ringed()]:
            for rule in ("right", "strict"):
                live = begun(exchange, rule)
                random = Random(404)
                while True:
                    plan = Plan(exchange, live.done)
                    left = plan.left()
                    numbers = [number for number in range(len(exchange)) if number not in live.done]
                    before = state(live)
                    try:
                        wanted = tuple(numbers[number] for number in least_order(left).numbers)
                    except Ringed:
                        with self.assertRaises(Ringed) as caught:
                            live.finish()
                        self.assertIs(is_ring(left, caught.exception.ring), True)
                        self.assertEqual(state(live), before)
                        ringed_too += 1
                    else:
                        found = live.tried(lambda going: (going.finish(), state(going)))
                        self.same(found[0], wanted)
                        self.assertEqual(found[1], [exchange.second_copy(), None, (), rule, (*before[4], *(f"step {number}" for number in wanted), "end")])
                    fit = [number for number in numbers if third_at(exchange, tuple(sorted((*live.done, number)))) is None]
                    if rule == "strict":
                        fit = [number for number in fit if is_closed(exchange, (*live.done, number))]
                    if len(numbers) == 1 or not fit:
                        break
                    live.step(random.choice(fit))
        self.assertGreater(ringed_too, 5)

    def test_with_one_column_it_is_never_refused(self):
        for exchange in few_steps(405, 80, 6, "r", 6):
            live = begun(exchange)
            while live.exchange is not None:
                self.same(live.tried(lambda going: sorted((*going.done, *going.finish()))), list(range(len(exchange))))
                live.step(may_come(exchange, tuple(sorted(live.done)))[-1])

    def ringed_finish(self, live):
        """The ring with which finish is refused: one of what is left, with its numbers. Nothing changes."""
        before = state(live)
        with self.assertRaises(Ringed) as caught:
            live.finish()
        self.assertIs(is_ring(Plan(live.exchange, live.done).left(), caught.exception.ring), True)
        self.assertEqual(state(live), before)
        return caught.exception.ring

    def test_a_ring_with_the_numbers_of_what_is_left(self):
        for rule in ("right", "strict"):
            live = begun(late_ring(), rule)
            live.step(0)
            self.same(sorted(self.ringed_finish(live)), [(0, 1, "r", "new/old"), (1, 0, "w", "old/new")])

    def test_a_ring_ahead_of_all_steps_in_the_middle_and_gone_back(self):
        rows = {"/a": {"r": "1"}, "/p": {"r": "1"}, "/p/q": {"r": "2"}, "/z": {"r": "1"}}
        live = begun(two(rows, {"/p": {"w": "3"}, "/p/q": {"w": "4"}}))
        crossed = [(0, 1, "r", "old/old"), (1, 0, "w", "new/new")]
        moved = [(1, 2, "r", "old/old"), (2, 1, "w", "new/new")]
        self.same(sorted(self.ringed_finish(live)), moved)
        live.step(3)
        self.same(sorted(self.ringed_finish(live)), moved)
        live.step(0)
        self.same(sorted(self.ringed_finish(live)), crossed)
        live.back()
        self.same(sorted(self.ringed_finish(live)), moved)

    def test_a_ring_beside_divided_places(self):
        first = {"/a": {"r": "1", "w": "1"}, "/p": {"r": "1"}, "/p/q": {"r": "2"}}
        exchange = two(first, {"/a": {"r": "2", "w": "2"}, "/p": {"w": "3"}, "/p/q": {"w": "4"}}, ["/a"])
        live = begun(exchange)
        for number, divided, left in ((None, ("/a",), 4), (1, ("/a",), 3), (0, (), 2)):
            if number is not None:
                live.step(number)
            self.same(sorted(s[:2] for s in self.ringed_finish(live)), [(left - 2, left - 1), (left - 1, left - 2)])
            self.same(Plan(exchange, live.done).left().divided, divided)

    def test_divided(self):
        live = Live(ringed().first_copy())
        live.begin(ringed().second_copy(), divided=["/p"])
        self.same([live.step(0), live.finish(), live.log[-1]], [2, (2, 1), "end"])


class Turn(Case):
    def test_no_exchange(self):
        self.refused(NoExchange, {}, live_of(alike()).turn_to, Table(["w"]), divided=[None])

    def test_as_exchange_and_then_nothing_changes(self):
        live = Live(forty())
        live.begin(Table(["r"]))
        live.step(3)
        before = state(live)
        more = forty() | {"/p10": {"r": "other"}}
        more.take("/p49")
        more.put("/z", r="x")
        for third, divided, error, attributes in [
            (Table(["w"]), [None], UnlikeColumns, {}), (Table.plain("r", {"/z": "x", "/z/z": "x"}), ["zz"], TooMany, {"most": 40}),
            (forty(), ["p"], BadPlace, {"value": "p"}), (forty(), ["/p10"], NoStep, {"value": "/p10"}),
        ]:
            self.refused(error, attributes, live.turn_to, third, divided=divided)
            self.assertEqual(state(live), before)
        self.same([str(step) for step in live.turn_to(forty()).steps], ["put /p13"])

    def test_from_the_table_that_stands(self):
        live = begun(alike())
        live.step(1)
        third = Table.plain("r", {"/": "z"})
        exchange = live.turn_to(third=third)
        self.assertEqual(exchange, plain({"/": "x"}, {"/": "z"}))
        self.assertEqual(live.exchange, exchange)
        self.same([live.done, live.log], [(), ("begin", "step 1", "turn")])
        self.same([live.finish(), live.log], [(0,), ("begin", "step 1", "turn", "step 0", "end")])
        self.assertEqual(live.table_copy(), third)

    def test_the_two_answers_are_those_of_the_turn_from_then_on(self):
        # Of the exchange under way /s/r was told x and would be told y; behind the turn it may be told x and z.
        live = begun(alike())
        live.turn_to(Table.plain("r", {"/": "z"}))
        self.same([live.step(1), live.step(0), live("/s/r")], [1, 0, ("z",)])

    def test_divided_and_without_steps(self):
        live = Live(ringed().first_copy())
        live.begin(ringed().second_copy())
        self.assertEqual(live.turn_to(ringed().second_copy(), divided=("/p",)), ringed().divide("/p"))
        live.step(0)
        self.same([len(live.turn_to(live.table_copy())), live.exchange, live.done, live.log], [0, None, (), ("begin", "turn", "step 0", "turn", "end")])


class Exchanged(Case):
    def test_what_deed_returns(self):
        for value in (None, 7, [1], "x"):
            live = live_of(alike())
            self.assertIs(live.exchanged(alike().second_copy(), lambda going: value), value)
            self.same(live.log, ("begin", "step 0", "step 2", "step 1", "end"))
            self.assertEqual(live.table_copy(), alike().second_copy())
        live = live_of(alike())
        self.assertIs(live.exchanged(second=alike().second_copy(), deed=lambda going: going), live)

    def test_deed_is_called_behind_the_beginning(self):
        live = live_of(alike())
        self.same(live.exchanged(alike().second_copy(), lambda going: (going.exchange == alike(), going.log, going.step(2), going.done)), (True, ("begin",), 2, (2,)))
        self.same(live.log, ("begin", "step 2", "step 0", "step 1", "end"))

    def test_deeds_that_finish_turn_begin_again_and_set_the_rule(self):
        third = Table.plain("r", {"/z": "z"})

        def turn(going):
            going.step(1)
            going.turn_to(third)

        def again(going):
            going.finish()
            going.rule = "strict"
            going.begin(third)

        def over(going):
            return going.finish()

        for deed, table, rule, turned in ((turn, third, "right", "turn"), (again, third, "strict", "begin"), (over, alike().second_copy(), "right", "begin")):
            live = live_of(alike())
            live.exchanged(alike().second_copy(), deed)
            self.assertEqual(state(live)[:4], [table, None, (), rule])
            self.same([turned in live.log, live.log[-1]], [True, "end"])

    def test_without_steps_deed_is_called_all_the_same(self):
        live = live_of(alike())
        self.same(live.exchanged(alike().first_copy(), lambda going: [going.exchange, going.log]), [None, ("begin", "end")])
        self.same(live.exchanged(alike().first_copy(), lambda going: len(going.begin(alike().second_copy()))), 3)
        self.same(live.log[:3] + live.log[-1:], ("begin", "end", "begin", "end"))
        self.assertEqual(live.table_copy(), alike().second_copy())

    def test_underway_then_as_exchange(self):
        live = begun(alike())
        before = state(live)
        self.refused(Underway, {}, live.exchanged, Table(["w"]), lambda going: 1)
        self.assertEqual(state(live), before)
        live = live_of(alike())
        self.refused(UnlikeColumns, {}, live.exchanged, Table(["w"]), lambda going: 1)
        self.assertEqual(state(live), [alike().first_copy(), None, (), "right", ()])

    def raising(self, error, *deeds):
        def deed(going):
            for part in deeds:
                part(going)
            raise error
        return deed

    def test_errors_of_all_classes_put_all_back(self):
        third = Table.plain("r", {"/z": "z"})
        deeds = [
            lambda going: going.step(2), lambda going: going.turn_to(third), lambda going: going.step(1), lambda going: going.back(),
            lambda going: going.finish(), lambda going: going.set_rule("strict"), lambda going: going.begin(alike().first_copy()),
        ]
        for error in (KeyError("k"), ValueError(), Oops(), TooMany(7), StopIteration(), ZeroDivisionError(), KeyboardInterrupt(), TypeError()):
            for many in range(len(deeds) + 1):
                live = live_of(alike())
                live.begin(alike().second_copy())
                live.finish()
                live.exchanged(alike().first_copy(), lambda going: None)
                before = state(live)
                with self.assertRaises(type(error)) as caught:
                    live.exchanged(alike().second_copy(), self.raising(error, *deeds[:many]))
                self.assertIs(caught.exception, error)
                self.assertEqual(state(live), before)

    def test_errors_of_the_finish_behind_it(self):
        live = live_of(ringed())
        before = state(live)
        with self.assertRaises(Ringed):
            live.exchanged(ringed().second_copy(), lambda going: going.told("/p"))
        self.assertEqual(state(live), before)
        # With a step done the ring is one of what is left then.
        for rule in ("right", "strict"):
            for deed in (lambda going: going.step(0), lambda going: (going.step(0), going.back(), going.step(0))):
                live = live_of(late_ring(), rule)
                before = state(live)
                with self.assertRaises(Ringed) as caught:
                    live.exchanged(late_ring().second_copy(), deed)
                self.same(sorted(caught.exception.ring), [(0, 1, "r", "new/old"), (1, 0, "w", "old/new")])
                self.assertEqual(state(live), before)
        # The deed goes into the trap; what is left then forms a ring.
        live = live_of(trap())
        before = state(live)
        with self.assertRaises(TableError):
            live.exchanged(trap().second_copy(), lambda going: going.step(0))
        self.assertEqual(state(live), before)

    def test_a_ring_of_an_exchange_that_deed_began_or_turned_to(self):
        def turn(going):
            going.step(1)
            going.turn_to(late_ring().second_copy())
            going.step(0)

        def again(going):
            going.finish()
            going.begin(late_ring().first_copy())
            going.finish()
            going.begin(late_ring().second_copy())
            going.step(0)

        more = late_ring().first_copy() | {"/b": {"r": "x"}, "/c": {"r": "x"}}
        for deed in (turn, again):
            live = live_of(late_ring())
            before = state(live)
            with self.assertRaises(Ringed) as caught:
                live.exchanged(more, deed)
            self.assertEqual(state(live), before)
            # What is left is found once more on a live table of its own.
            other = live_of(late_ring())
            other.begin(more)
            deed(other)
            left = Plan(other.exchange, other.done).left()
            self.assertIs(is_ring(left, caught.exception.ring), True)
            self.assertIs(is_ring(other.exchange, caught.exception.ring), False)

    def test_within_one_another(self):
        live = live_of(alike())

        def inner(going):
            going.finish()
            going.exchanged(alike().first_copy(), lambda again: again.step(0))
            return going.log

        self.same(live.exchanged(alike().second_copy(), inner)[-1], "end")
        self.assertEqual(state(live)[:4], [alike().first_copy(), None, (), "right"])


class Trials(Case):
    def deeds(self, going):
        going.step(1)
        going.turn_to(Table.plain("r", {"/z": "z"}))
        going.finish()
        going.rule = "strict"
        going.begin(alike().first_copy())

    def test_with_and_without_an_error(self):
        for live in (live_of(alike()), begun(alike()), begun(alike(), "strict")):
            before = state(live)
            with live.trial() as going:
                self.assertIs(going, live)
                if live.exchange is None:
                    live.begin(alike().second_copy())
                live.finish()
                live.set_rule("strict")
                live.begin(alike().first_copy())
                self.same([live.rule, live.log[-1]], ["strict", "begin"])
            self.assertEqual(state(live), before)
            for error in (KeyError("k"), Oops(), NoStep(3), KeyboardInterrupt()):
                with self.assertRaises(type(error)) as caught:
                    with live.trial():
                        if live.exchange is not None:
                            live.finish()
                        raise error
                self.assertIs(caught.exception, error)
                self.assertEqual(state(live), before)

    def test_tried(self):
        live = begun(alike())
        before = state(live)
        self.same(live.tried(lambda going: (going.step(2), going is live)), (2, True))
        self.same(live.tried(deed=lambda going: self.deeds(going)), None)
        self.assertEqual(state(live), before)
        with self.assertRaises(KeyError):
            live.tried(lambda going: {}[going.step(2)])
        self.assertEqual(state(live), before)

    def test_within_one_another(self):
        live = begun(alike())
        with live.trial():
            live.step(2)
            middle = state(live)
            with live.trial():
                live.finish()
                self.same(live.tried(lambda going: going.begin(alike().first_copy()) is None), False)
                self.same(live.exchange, None)
            self.assertEqual(state(live), middle)
            live.step(1)
        self.same([live.done, live.log], [(), ("begin",)])

    def test_an_exchange_within_a_trial_and_a_trial_within_an_exchange(self):
        live = live_of(alike())
        with live.trial():
            live.exchanged(alike().second_copy(), lambda going: going.tried(lambda again: again.finish()))
            self.same(live.log, ("begin", "step 0", "step 2", "step 1", "end"))
        self.same(live.log, ())

    def test_the_block_may_be_made_ahead(self):
        live = live_of(alike())
        block = live.trial()
        live.begin(alike().second_copy())
        with block:
            live.finish()
        self.same([live.log, live.done], [("begin",), ()])


class Whole(Case):
    def test_it_equals_nothing_of_another_kind(self):
        live = begun(alike())
        for value in values(alike()):
            self.assertIs(live == value, False)

    def test_the_tables_passed_are_not_changed(self):
        first, second, third = alike().first_copy(), alike().second_copy(), Table.plain("r", {"/z": "z"})
        live = Live(first)
        live.begin(second)
        live.step(2)
        live.turn_to(third)
        live.exchange.steps[0].on(third)
        live.finish()
        self.assertEqual([first, second, third], [alike().first_copy(), alike().second_copy(), Table.plain("r", {"/z": "z"})])
        self.assertEqual(live.table_copy(), third)
        self.assertEqual(Exchange(first, second), alike())


if __name__ == "__main__":
    unittest.main()
