"""The examples of the document, line by line as they stand."""

import unittest

from helpers import Case
from nearestsays.book import Book, is_book
from nearestsays.counting import count, nth, rank
from nearestsays.desk import Desk
from nearestsays.dividing import candidates, fewest_divided
from nearestsays.errors import BadLine, BadPlace, BadText, ThirdAnswer, TooEarly
from nearestsays.exchange import Exchange
from nearestsays.hands import joining, mixed, together
from nearestsays.heard import Hearings, contradiction, shows_contradiction
from nearestsays.judge import broken, judge, shows, third
from nearestsays.least import alike, closest, least, needless, parted
from nearestsays.live import Live
from nearestsays.orders import orders, ready
from nearestsays.places import Place
from nearestsays.plans import Plan
from nearestsays.rings import is_ring, ring
from nearestsays.room import barred, least_room, within
from nearestsays.rounds import chain, rounds, shows_rounds
from nearestsays.standings import is_right, may_come, right_standings, strict_standings, third_at
from nearestsays.tables import Table
from nearestsays.texts import read_table, show_plan, show_table

E = Exchange(Table.plain("r", {"/p": "1", "/p/q/r": "3"}), Table.plain("r", {"/p/q": "2", "/p/q/r/s": "4"}))
F = Exchange(Table(["r", "w"], {"/p": {"r": "1"}, "/p/q": {"r": "2"}}), Table(["r", "w"], {"/p": {"w": "3"}, "/p/q": {"w": "4"}}))
G = Exchange(Table.plain("r", {"/": "x", "/s": "x"}), Table.plain("r", {"/": "q", "/s/r": "y"}))


class Examples(Case):
    def test_places(self):
        old = Place("docs", "old")
        self.same([str(old), str(old.up), len(old), str(old + "x"), "/docs/old/x" in old, old.up in old, str(old & Place("docs", "new"))],
                  ['/docs/old', '/docs', 2, '/docs/old/x', True, False, '/docs'])
        self.same([Place("docs").is_ahead(old), old.is_ahead(Place("docsx")), Place().up, bool(Place()), str(old.head(1)), repr(Place())],
                  [True, True, None, False, '/docs', "Place('/')"])
        self.refused(BadPlace, {"value": '/docs/'}, Place.read, "/docs/")

    def test_tables(self):
        rights = Table(["read", "write"], {"/": {"read": "all"}, "/docs/old": {"write": "ann"}})
        self.same([rights("/docs/old/x"), rights.told("/docs", "write"), rights.speaker("/docs/old", "read"), rights.places, "/docs" in rights],
                  [('all', 'ann'), (None,), '/', ('/', '/docs/old'), False])
        rights |= {"/docs": {"read": "bob", "write": "bob"}}
        self.same([rights.told("/docs/old", "write", "read"), len(rights), rights.take("/docs"), rights("/docs/old")],
                  [('ann', 'bob'), 3, {'read': 'bob', 'write': 'bob'}, ('all', 'ann')])

    def test_least_tables(self):
        one = Table.plain("r", {"/": "a", "/x": "b", "/x/y": "a", "/x/y/z": "a"})
        other = Table.plain("r", {"/": "a", "/x/w": "a"})
        self.same([needless(one), least(other).places, parted(one, other), closest(one, Table.plain("r", {"/": "b"})).places],
                  [[('/x/y/z', 'r')], ('/',), ('/x', 'r'), ('/', '/x')])
        self.same([alike(one, other), alike(other, least(other))], [False, True])

    def test_exchanges(self):
        self.same([str(step) for step in E.steps], ['take /p', 'put /p/q', 'take /p/q/r', 'put /p/q/r/s'])
        self.same([E.sentences, E.kind("/p/q", "r"), E.above("/p/q/x", "r")],
                  [((1, 0, 'r', 'old/new'), (1, 2, 'r', 'new/old'), (3, 2, 'r', 'old/new')), 'new', '/p/q'])
        self.same([F.sentences, [str(step) for step in F.divide("/p").steps], F.divide("/p").sentences],
                  [((0, 1, 'r', 'old/old'), (1, 0, 'w', 'new/new')), ['part /p r', 'part /p w', 'edit /p/q'],
                   ((0, 2, 'r', 'old/old'), (2, 1, 'w', 'new/new'))])

    def test_plans(self):
        plan = Plan(E, [1, 0])
        self.same([plan.is_strict, plan.table_behind().places, len(plan.left()), (plan + 3).numbers, judge(plan).paper()],
                  [True, ('/p/q', '/p/q/r'), 2, (1, 0, 3), ('strict', (1, 0), ((0, 1), (0, None), (None, None)))])
        early = Plan(E, (1, 2))
        self.same([early.is_strict, early.is_right], [False, False])
        self.same([broken(early), third(early)], [(2, '/p/q/r/s', 'r', (3, 2, 'r', 'old/new')), (2, '/p/q/r/s', 'r', '2')])
        self.same([judge(early).paper(), shows(E, judge(early).paper())],
                  [('broken', (1, 2), 2, '/p/q/r/s', 'r', ('/p/q', 'second')), True])

    def test_orders(self):
        self.same([order.numbers for order in orders(E)],
                  [(1, 0, 3, 2), (1, 3, 0, 2), (1, 3, 2, 0), (3, 1, 0, 2), (3, 1, 2, 0)])
        self.same([count(E), nth(E, 3).numbers, rank(Plan(E, (1, 3, 2, 0))), ready(Plan(E, [1])), rounds(E), chain(E)],
                  [5, (3, 1, 0, 2), 2, (0, 3), [(1, 3), (0, 2)], (1, 0)])
        self.same([count(F), shows_rounds(E, ((3, 1), (2, 0)), (3, 2))], [0, True])

    def test_rings(self):
        self.same([ring(E), is_ring(F, F.sentences), candidates(F), ring(F.divide("/p/q"))], [None, True, ('/p', '/p/q'), None])
        places, reasons = fewest_divided(F)
        self.same([places, len(reasons), reasons[0][0], count(F.divide(*places))], [('/p',), 1, (), 1])

    def test_standings(self):
        self.same([G.sentences, may_come(G, (1,)), third_at(G, (0, 1)), right_standings(G), strict_standings(G)],
                  [((0, 1, 'r', 'turned/old'), (2, 1, 'r', 'old/new')), (2,), ('/s/r', 'r', 'q'), 7, 5])
        self.same([is_right(G, (0,)), is_right(G, (1,)), is_right(G, (0, 1)), is_right(G, (0, 1, 2))], [True, True, False, True])

    def test_book(self):
        book = Book(G)
        self.same([book.total, len(book), book.rows[0], [walk for walk in book.walks()]],
                  [4, 7, ((), (0, 1, 2), 4), [(0, 2, 1), (1, 2, 0), (2, 0, 1), (2, 1, 0)]])
        self.same([Book(F).rows, Book(F).is_stuck(())], [(((), (), 0),), True])
        self.same([is_book(G, book.rows), is_book(F, book.rows)], [True, False])

    def test_room(self):
        self.same([least_room(E), within(E, 2), barred(E, 2)], [(3, (1, 0, 3, 2)), None, ((),)])

    def test_hands(self):
        base = Table.plain("r", {"/": "a"})
        one = Exchange(base, Table.plain("r", {"/x/y": "d"}))
        other = Exchange(base, Table.plain("r", {"/": "a", "/x": "c"}))
        self.same([one.sentences, other.sentences, [str(step) for step in together(one, other).steps], joining(one, other)],
                  [((1, 0, 'r', 'old/new'),), (), ['take /', 'put /x', 'put /x/y'], [(1, 0, 'r', 'old/new'), (2, 1, 'r', 'new/new')]])
        self.same(mixed(Plan(one, [1, 0]), Plan(other, [0]), [0, 1, 0]).numbers, (2, 1, 0))

    def test_what_was_heard(self):
        heard = Hearings(E)
        heard.hear(("/p/q/r", "r", "2"), ("/p", "r", "1"))
        self.same([heard.surely_done(0), heard.surely_left(0)], [(1, 2, 3), (0,)])
        rows = [[("/p", "r", None)], [("/p/q", "r", "1")]]
        self.same([contradiction(E, rows), contradiction(E, [[("/p", "r", "7")]])], [(0, 0, 1, 0, (1, 0)), (0, 0)])
        self.same([shows_contradiction(E, rows, (0, 0, 1, 0, (1, 0))), shows_contradiction(E, rows, (0, 0))], [True, False])

    def test_a_live_table(self):
        live = Live(G.first_copy())
        self.same(live.begin(G.second_copy()) == G, True)
        self.same([live.step(1), live("/s/r"), live.done], [2, ('x',), (1,)])
        with self.assertRaises(ThirdAnswer) as caught:
            live.step(0)
        self.same(vars(caught.exception), {"place": '/s/r', "column": 'r', "heard": 'q'})
        self.same([type(caught.exception.__cause__) is TooEarly, vars(caught.exception.__cause__)], [True, {"number": 1, "ahead": 2}])
        self.same([live.finish(), live.exchange, live("/s"), live.log], [(2, 0), None, ('q',), ('begin', 'step 1', 'step 2', 'step 0', 'end')])

    def test_texts_and_the_desk(self):
        self.same(show_plan(Plan(G, [2])), 'columns r\nfirst / r x\nfirst /s r x\nsecond / r q\nsecond /s/r r y\norder 2')
        self.same(show_table(G.first_copy()), 'columns r\nrow / r x\nrow /s r x')
        desk = Desk()
        self.same(desk.run("show", "table columns r ; row / r x ; row /s r x", "begin columns r ; row / r q ; row /s/r r y", "do 1", "do 0", "ready"),
                  ['no table', 'ok', '3', '2', 'refused ThirdAnswer', '2'])
        self.same(desk.run("finish", "tell /s r", "show", "rounds"), ['2 0', 'q', 'columns r ; row / r q ; row /s/r r y', 'refused NoExchange'])
        self.same(desk.run("begin columns r ; row / r q", "judge 0 0", "judge 0", "judge"), ['1', 'refused BadPlan', 'strict', 'strict'])
        self.refused(BadLine, {"word": 2}, desk.say, "tell /s  r")
        self.refused(BadText, {"line": 2, "word": 1}, read_table, "columns r\nrow /b r x\nrow /a r x")

    def test_the_example_of_the_sentences(self):
        put = Exchange(Table.plain("r", {"/": "a", "/x/y": "b"}), Table.plain("r", {"/x": "c"}))
        self.same(put.above("/x/y", "r"), "/x")
        self.same(put.sentences, ((1, 0, "r", "old/new"), (1, 2, "r", "new/old")))
        kept = Exchange(Table.plain("r", {"/": "a", "/x": "c", "/x/y": "b"}), Table.plain("r", {"/x": "c"}))
        self.same(kept.sentences, ())


if __name__ == "__main__":
    unittest.main()
