"""The facts of the document, checked over many small exchanges by ways of their own."""

import unittest
from itertools import permutations, product
from random import Random

from helpers import Case
from nearestsays.exchange import unlike
from nearestsays.plans import Plan
from nearestsays.tables import Table
from small import (
    PLACES, broken_at, cells_heard, rows_at, some_exchanges, some_plans, strict_numbers, third_places,
)


class Told(Case):
    def test_tables_stand_as_their_steps_tell(self):
        random = Random(10)
        for exchange in some_exchanges(10, 150):
            for plan in some_plans(exchange, random):
                for moment, table in enumerate(plan.tables()):
                    rows = rows_at(exchange, plan.numbers[:moment])
                    self.assertEqual(table, Table(table.columns, rows))
                self.assertEqual(table, plan.table_behind())

    def test_right_is_asked_of_every_place(self):
        random = Random(11)
        for exchange in some_exchanges(11, 200):
            for plan in some_plans(exchange, random):
                wrong = [moment for moment in range(len(plan) + 1) if third_places(exchange, plan.numbers[:moment])]
                self.assertIs(plan.is_right, not wrong)

    def test_the_first_place_told_a_third_answer_has_a_cell_there(self):
        random = Random(12)
        for exchange in some_exchanges(12, 200):
            for plan in some_plans(exchange, random):
                for place, column in third_places(exchange, plan.numbers)[:1]:
                    self.assertIsNotNone(exchange.kind(place, column))


class Facts(Case):
    def test_a_strict_plan_is_right(self):
        random = Random(20)
        seen = 0
        for exchange in some_exchanges(20, 300):
            for plan in some_plans(exchange, random):
                if plan.is_strict:
                    seen += 1
                    self.assertTrue(plan.is_right)
        self.assertGreater(seen, 500)

    def test_with_unlike_answers_a_right_plan_is_strict(self):
        random = Random(21)
        wrong = 0
        for exchange in some_exchanges(21, 300):
            for plan in some_plans(unlike(exchange), random):
                wrong += not plan.is_right
                self.assertIs(plan.is_right, plan.is_strict)
        self.assertGreater(wrong, 300)

    def test_strict_is_the_same_for_unlike_answers(self):
        random = Random(22)
        for exchange in some_exchanges(22, 150):
            for plan in some_plans(exchange, random):
                self.assertIs(Plan(unlike(exchange), plan.numbers).is_strict, plan.is_strict)

    def test_the_least_place_that_hears_a_cell_of_neither_table(self):
        random = Random(23)
        seen = 0
        for exchange in some_exchanges(23, 250):
            at_first = cells_heard(exchange, [])
            at_last = cells_heard(exchange, range(len(exchange)))
            for plan in some_plans(exchange, random):
                found = broken_at(exchange, plan.numbers)
                self.assertIs(found is None, plan.is_strict)
                moment, lower = found or (len(plan), [])
                done = plan.numbers[:moment]
                heard = cells_heard(exchange, done)
                strange = [spot for spot in heard if heard[spot] not in (at_first[spot], at_last[spot])]
                self.assertEqual(strange[:1], sorted(lower)[:1])
                seen += len(strange) > 0
        self.assertGreater(seen, 200)

    def test_in_a_right_plan_no_place_goes_back(self):
        random = Random(24)
        for exchange in some_exchanges(24, 200):
            first, second = exchange.first_copy(), exchange.second_copy()
            for plan in some_plans(exchange, random):
                if not plan.is_right:
                    continue
                tables = list(plan.tables())
                for place, column in product(PLACES, first.columns):
                    if first.told(place, column) != second.told(place, column):
                        turned = [table.told(place, column) == second.told(place, column) for table in tables]
                        self.assertEqual(turned, sorted(turned))

    def test_a_place_turns_over_at_the_step_of_the_nearest_cell(self):
        random = Random(25)
        for exchange in some_exchanges(25, 200):
            first, second = exchange.first_copy(), exchange.second_copy()
            for plan in some_plans(exchange, random):
                if not (plan.is_strict and plan.is_whole):
                    continue
                tables = list(plan.tables())
                for place, column in product(PLACES, first.columns):
                    if first.told(place, column) == second.told(place, column):
                        continue
                    nearest = place if exchange.kind(place, column) else exchange.above(place, column)
                    step = plan.numbers.index(exchange.number_of(nearest, column))
                    for moment, table in enumerate(tables):
                        wanted = second if moment > step else first
                        self.assertEqual(table.told(place, column), wanted.told(place, column))

    def test_backwards(self):
        for exchange in some_exchanges(26, 120):
            if len(exchange) > 4:
                continue
            for order in permutations(range(len(exchange))):
                plan = Plan(exchange, order)
                self.assertIs(plan.back().is_strict, plan.is_strict)
                self.assertIs(plan.back().is_right, plan.is_right)

    def test_behind_a_strict_plan_the_sentences_between_the_steps_left_are_left(self):
        random = Random(27)
        seen = 0
        for exchange in some_exchanges(27, 300, most=8):
            for plan in some_plans(exchange, random):
                if not plan.is_strict:
                    continue
                numbers = [number for number in range(len(exchange)) if number not in plan.numbers]
                between = [
                    (numbers.index(ahead), numbers.index(behind), column, word)
                    for ahead, behind, column, word in exchange.sentences
                    if ahead in numbers and behind in numbers
                ]
                left = plan.left()
                self.assertEqual(len(left), len(numbers))
                self.assertEqual(list(left.sentences), between)
                seen += len(plan) > 0 and len(between) > 0
        self.assertGreater(seen, 100)

    def test_with_one_column_there_is_always_an_order(self):
        for exchange in some_exchanges(28, 300, columns="r", most=9):
            plan = Plan(exchange, strict_numbers(exchange, Random(29)))
            self.same([plan.is_whole, plan.is_strict], [True, True])


if __name__ == "__main__":
    unittest.main()
