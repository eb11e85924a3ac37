import unittest
from itertools import islice, permutations
from math import factorial
from random import Random

from helpers import Case
from nearestsays.errors import Ringed
from nearestsays.orders import least_order, orders, ready
from nearestsays.plans import Plan
from nearestsays.rings import is_ring
from small import few_steps, forty_with_a_ring, nested, orders_of, ringed, some_exchanges, some_plans, wide
from test_exchange import of_kinds, plain
from test_plans import ALIKE, chain


class Ready(Case):
    def test_the_chain(self):
        for numbers, wanted in {(): (1, 3), (1,): (0, 3), (3,): (1,), (1, 3): (0, 2), (1, 0): (3,), (1, 3, 2): (0,), (1, 0, 3, 2): ()}.items():
            self.same(ready(Plan(chain(), numbers)), wanted)
        self.same(ready(plan=Plan(chain())), (1, 3))

    def test_plans_that_are_not_strict(self):
        for numbers, wanted in {(0,): (1, 3), (2,): (1, 3), (0, 2): (1, 3), (2, 1): (0, 3), (3, 2): (1,), (2, 0, 3, 1): ()}.items():
            self.same(ready(Plan(chain(), numbers)), wanted)

    def test_no_steps(self):
        self.same(ready(Plan(plain({}, {}))), ())

    def test_with_a_ring(self):
        self.same(ready(Plan(ringed())), ())
        self.same(ready(Plan(ringed(), [0])), (1,))
        self.same(ready(Plan(ringed(), [1, 0])), ())
        self.same(ready(Plan(forty_with_a_ring())), tuple(range(38)))

    def test_against_the_sentences(self):
        random = Random(70)
        for columns in ("r", "rw", "rwz"):
            for exchange in some_exchanges(70, 80, columns, 6):
                for plan in some_plans(exchange, random):
                    wanted = [
                        number for number in range(len(exchange)) if number not in plan.numbers
                        and all(ahead in plan.numbers for ahead, behind, _, _ in exchange.sentences if behind == number)
                    ]
                    self.same(ready(plan), tuple(wanted))

    def test_a_ready_step_keeps_a_strict_plan_strict(self):
        random = Random(71)
        for exchange in some_exchanges(71, 80):
            for plan in some_plans(exchange, random):
                if plan.is_strict:
                    strict = [number for number in range(len(exchange)) if number not in plan.numbers and (plan + number).is_strict]
                    self.same(ready(plan), tuple(strict))


class Orders(Case):
    def test_the_chain(self):
        found = list(orders(chain()))
        self.same([order.numbers for order in found], [(1, 0, 3, 2), (1, 3, 0, 2), (1, 3, 2, 0), (3, 1, 0, 2), (3, 1, 2, 0)])
        for order in found:
            self.assertIs(type(order), Plan)
            self.assertEqual(order.exchange, chain())
            self.same([order.is_strict, order.is_whole], [True, True])

    def test_all_of_them_ascending(self):
        seen = 0
        for columns, seed in (("r", 72), ("rw", 73), ("rwz", 74)):
            for exchange in few_steps(seed, 150, 6, columns, 6):
                wanted = orders_of(exchange)
                self.same([order.numbers for order in orders(exchange)], wanted)
                seen += len(wanted)
        self.assertGreater(seen, 1000)

    def test_free_steps(self):
        exchange = plain({}, {f"/a{number}": "x" for number in range(5)})
        self.same([order.numbers for order in orders(exchange=exchange)], list(permutations(range(5))))
        self.same(len(list(orders(plain({}, {f"/a{number}": "x" for number in range(7)})))), factorial(7))

    def test_no_steps(self):
        self.same([order.numbers for order in orders(plain({}, {}))], [()])
        self.same([order.numbers for order in orders(plain({"/a": "x"}, {"/a": "x"}))], [()])

    def test_right_though_not_strict_is_no_order(self):
        self.same([order.numbers for order in orders(plain(*ALIKE))], [(0, 2, 1), (2, 0, 1)])

    def test_none_with_a_ring(self):
        self.same(list(orders(ringed())), [])
        self.same(list(orders(forty_with_a_ring())), [])
        deep = {"/p": "r", "/p/q": "r", **{f"/p/q/x{number}": "r" for number in range(38)}}
        self.same(list(orders(wide("rw", deep, {"/p": "w", "/p/q": "w"}))), [])

    def test_the_first_ones_of_forty_rows_come_at_once(self):
        exchange = plain({}, {f"/a{number}": "x" for number in range(10, 50)})
        found = [order.numbers for order in islice(orders(exchange), 3)]
        self.same(found, [tuple(range(40)), (*range(38), 39, 38), (*range(37), 38, 37, 39)])

    def test_each_walk_is_one_of_its_own(self):
        exchange = chain()
        one, other = orders(exchange), orders(exchange)
        next(one)
        self.same([next(one).numbers, next(other).numbers], [(1, 3, 0, 2), (1, 0, 3, 2)])


class LeastOrder(Case):
    def test_the_first_one(self):
        self.assertEqual(least_order(chain()), Plan(chain(), (1, 0, 3, 2)))
        self.assertEqual(least_order(exchange=plain({}, {})), Plan(plain({}, {})))
        for columns in ("r", "rw"):
            for exchange in few_steps(75, 120, 6, columns, 6):
                wanted = orders_of(exchange)
                if wanted:
                    self.same(least_order(exchange).numbers, wanted[0])

    def test_forty_nested_rows(self):
        places = [place for start in ("/a", "/b", "/c", "/d", "/e") for place in nested(8 - 1, start)]
        puts = of_kinds({place: "new" for place in places})
        self.same(least_order(puts).numbers, tuple(number for start in range(6, 35, 7) for number in range(start, start - 7, -1)))
        takes = of_kinds({place: "old" for place in places})
        self.same(least_order(takes).numbers, tuple(range(35)))

    def test_ringed(self):
        for exchange in (ringed(), forty_with_a_ring()):
            with self.assertRaises(Ringed) as caught:
                least_order(exchange)
            self.assertIs(is_ring(exchange, caught.exception.ring), True)
        found = 0
        for exchange in few_steps(76, 200, 6, "rwz", 5):
            if not orders_of(exchange):
                found += 1
                with self.assertRaises(Ringed) as caught:
                    least_order(exchange)
                self.assertIs(is_ring(exchange, caught.exception.ring), True)
        self.assertGreater(found, 5)


if __name__ == "__main__":
    unittest.main()
