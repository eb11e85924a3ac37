"""The facts of the document, checked over many small exchanges by ways of their own."""

import unittest
from itertools import permutations, product
from random import Random

from helpers import Case, speaker_of, told_by
from nearestsays.exchange import Exchange, unlike
from nearestsays.plans import Plan
from nearestsays.tables import Table

PLACES = ["/" + "/".join(names) for size in range(4) for names in product("ab", repeat=size)]


def some_exchange(random, columns, most):
    """An exchange with few steps over the places of a small tree."""
    spots = random.sample(PLACES, random.randint(1, most))
    tables = []
    for _ in range(2):
        rows = {}
        for place in spots:
            cells = {column: random.choice("xy") for column in columns if random.random() < 0.6}
            if cells:
                rows[place] = cells
        tables.append(rows)
    first, second = (Table(columns, rows) for rows in tables)
    differing = [place for place in spots if tables[0].get(place) != tables[1].get(place)]
    divided = [place for place in differing if random.random() < 0.3]
    return Exchange(first, second, divided=divided)


def some_exchanges(seed, many, columns=("r", "w"), most=4):
    random = Random(seed)
    return [some_exchange(random, list(columns), most) for _ in range(many)]


def some_plans(exchange, random):
    """A few plans, whole and in part, and a strict one that goes as far as it can."""
    numbers = list(range(len(exchange)))
    for _ in range(4):
        random.shuffle(numbers)
        yield Plan(exchange, numbers[:random.randint(0, len(numbers))])
        yield Plan(exchange, numbers)
    numbers = strict_numbers(exchange, random)
    yield Plan(exchange, numbers[:random.randint(0, len(numbers))])
    yield Plan(exchange, numbers)


def strict_numbers(exchange, random):
    """The numbers of a strict plan behind which no step is free."""
    left, done = list(range(len(exchange))), []
    while True:
        free = [n for n in left if all(s[0] in done for s in exchange.sentences if s[1] == n)]
        if not free:
            return done
        done.append(random.choice(free))
        left.remove(done[-1])


def rows_at(exchange, done):
    """The rows that stand when these steps are done, found cell by cell."""
    first, second = exchange.first_copy(), exchange.second_copy()
    rows = {}
    for place in exchange.places:
        for column in exchange.first_copy().columns:
            table = second if exchange.number_of(place, column) in done else first
            cells = table[place] if place in table else {}
            if column in cells:
                rows.setdefault(place, {})[column] = cells[column]
    return rows


def third_places(exchange, done):
    """All (place, column) of the small tree that are told a third answer."""
    rows = rows_at(exchange, done)
    first, second = exchange.first_copy(), exchange.second_copy()
    found = []
    for place in sorted(PLACES):
        for column in first.columns:
            allowed = (first.told(place, column)[0], second.told(place, column)[0])
            if told_by(rows, place, column) not in allowed:
                found.append((place, column))
    return found


def cells_heard(exchange, done):
    """The cells that the places of the small tree hear: their places and the tables in which they say so."""
    rows = rows_at(exchange, done)
    heard = {}
    for place, column in product(sorted(PLACES), exchange.first_copy().columns):
        spot = speaker_of(rows, place, column)
        table = "second" if exchange.number_of(spot or "/", column) in done else "first"
        if spot is not None and exchange.kind(spot, column) == "kept":
            table = "both"
        heard[(place, column)] = (spot, table) if spot else None
    return heard


def broken_at(exchange, numbers):
    """The first moment at which sentences are broken, and the lower cells of these, or None."""
    for moment in range(len(numbers) + 1):
        done = numbers[:moment]
        cells = []
        for ahead, behind, column, word in exchange.sentences:
            if behind in done and (ahead not in done or done.index(ahead) > done.index(behind)):
                lower = behind if word in ("old/old", "new/old", "turned/old") else ahead
                cells.append((exchange.steps[lower].place, column))
        if cells:
            return moment, cells
    return None


class Told(Case):
    def test_tables_stand_as_their_steps_tell(self):
        random = Random(10)
        for exchange in some_exchanges(10, 150):
            for plan in some_plans(exchange, random):
                for moment, table in enumerate(plan.tables()):
                    rows = rows_at(exchange, plan.numbers[:moment])
                    self.assertEqual(table, Table(table.columns, rows))
                self.assertEqual(table, plan.table_behind())

    def test_right_is_asked_of_every_place(self):
        random = Random(11)
        for exchange in some_exchanges(11, 200):
            for plan in some_plans(exchange, random):
                wrong = [moment for moment in range(len(plan) + 1) if third_places(exchange, plan.numbers[:moment])]
                self.assertIs(plan.is_right, not wrong)

    def test_the_first_place_told_a_third_answer_has_a_cell_there(self):
        random = Random(12)
        for exchange in some_exchanges(12, 200):
            for plan in some_plans(exchange, random):
                for place, column in third_places(exchange, plan.numbers)[:1]:
                    self.assertIsNotNone(exchange.kind(place, column))


class Facts(Case):
    def test_a_strict_plan_is_right(self):
        random = Random(20)
        seen = 0
        for exchange in some_exchanges(20, 300):
            for plan in some_plans(exchange, random):
                if plan.is_strict:
                    seen += 1
                    self.assertTrue(plan.is_right)
        self.assertGreater(seen, 500)

    def test_with_unlike_answers_a_right_plan_is_strict(self):
        random = Random(21)
        wrong = 0
        for exchange in some_exchanges(21, 300):
            for plan in some_plans(unlike(exchange), random):
                wrong += not plan.is_right
                self.assertIs(plan.is_right, plan.is_strict)
        self.assertGreater(wrong, 300)

    def test_strict_is_the_same_for_unlike_answers(self):
        random = Random(22)
        for exchange in some_exchanges(22, 150):
            for plan in some_plans(exchange, random):
                self.assertIs(Plan(unlike(exchange), plan.numbers).is_strict, plan.is_strict)

    def test_the_least_place_that_hears_a_cell_of_neither_table(self):
        random = Random(23)
        seen = 0
        for exchange in some_exchanges(23, 250):
            at_first = cells_heard(exchange, [])
            at_last = cells_heard(exchange, range(len(exchange)))
            for plan in some_plans(exchange, random):
                found = broken_at(exchange, plan.numbers)
                self.assertIs(found is None, plan.is_strict)
                moment, lower = found or (len(plan), [])
                done = plan.numbers[:moment]
                heard = cells_heard(exchange, done)
                strange = [spot for spot in heard if heard[spot] not in (at_first[spot], at_last[spot])]
                self.assertEqual(strange[:1], sorted(lower)[:1])
                seen += len(strange) > 0
        self.assertGreater(seen, 200)

    def test_in_a_right_plan_no_place_goes_back(self):
        random = Random(24)
        for exchange in some_exchanges(24, 200):
            first, second = exchange.first_copy(), exchange.second_copy()
            for plan in some_plans(exchange, random):
                if not plan.is_right:
                    continue
                tables = list(plan.tables())
                for place, column in product(PLACES, first.columns):
                    if first.told(place, column) != second.told(place, column):
                        turned = [table.told(place, column) == second.told(place, column) for table in tables]
                        self.assertEqual(turned, sorted(turned))

    def test_a_place_turns_over_at_the_step_of_the_nearest_cell(self):
        random = Random(25)
        for exchange in some_exchanges(25, 200):
            first, second = exchange.first_copy(), exchange.second_copy()
            for plan in some_plans(exchange, random):
                if not (plan.is_strict and plan.is_whole):
                    continue
                tables = list(plan.tables())
                for place, column in product(PLACES, first.columns):
                    if first.told(place, column) == second.told(place, column):
                        continue
                    nearest = place if exchange.kind(place, column) else exchange.above(place, column)
                    step = plan.numbers.index(exchange.number_of(nearest, column))
                    for moment, table in enumerate(tables):
                        wanted = second if moment > step else first
                        self.assertEqual(table.told(place, column), wanted.told(place, column))

    def test_backwards(self):
        for exchange in some_exchanges(26, 120):
            if len(exchange) > 4:
                continue
            for order in permutations(range(len(exchange))):
                plan = Plan(exchange, order)
                self.assertIs(plan.back().is_strict, plan.is_strict)
                self.assertIs(plan.back().is_right, plan.is_right)

    def test_behind_a_strict_plan_the_sentences_between_the_steps_left_are_left(self):
        random = Random(27)
        seen = 0
        for exchange in some_exchanges(27, 300, most=8):
            for plan in some_plans(exchange, random):
                if not plan.is_strict:
                    continue
                numbers = [number for number in range(len(exchange)) if number not in plan.numbers]
                between = [
                    (numbers.index(ahead), numbers.index(behind), column, word)
                    for ahead, behind, column, word in exchange.sentences
                    if ahead in numbers and behind in numbers
                ]
                left = plan.left()
                self.assertEqual(len(left), len(numbers))
                self.assertEqual(list(left.sentences), between)
                seen += len(plan) > 0 and len(between) > 0
        self.assertGreater(seen, 100)

    def test_with_one_column_there_is_always_an_order(self):
        for exchange in some_exchanges(28, 300, columns="r", most=9):
            plan = Plan(exchange, strict_numbers(exchange, Random(29)))
            self.same([plan.is_whole, plan.is_strict], [True, True])


if __name__ == "__main__":
    unittest.main()
