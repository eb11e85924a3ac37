import unittest
from random import Random

from helpers import NO_NAMES, NO_PLACES, Case, forty, values
from nearestsays.counting import count
from nearestsays.desk import Desk
from nearestsays.errors import BadLine, TableError
from nearestsays.exchange import Exchange
from nearestsays.judge import judge
from nearestsays.least import least
from nearestsays.live import Live
from nearestsays.places import Place
from nearestsays.plans import Plan
from nearestsays.room import least_room
from nearestsays.rounds import rounds
from nearestsays.tables import Table
from nearestsays.texts import read_table, show_table
from small import few_steps, ringed
from test_exchange import of_kinds, plain
from test_plans import ALIKE, chain

ALL = ["show", "tell /a r", "set /a r x", "drop /a", "least", "begin columns r", "steps", "sentences", "ready", "do 0", "back", "finish", "rule right",
       "judge", "judge 0 1", "count", "room", "rounds"]

FIRST = "table columns r ; row / r x ; row /s r x"
SECOND = "begin columns r ; row / r q ; row /s/r r y"

# A word of each kind that cannot stand where the others may.
NO_NUMBERS = ["", "x", "-1", "+1", "00", "01", "10000", "12345", "1.0", "0x1", "1\n", "\t1", "1,", "True", "None", "9" * 500]


def text_of(table):
    return show_table(table).replace("\n", " ; ")


def desk_of(exchange, rule="right"):
    """A desk at which an exchange is under way."""
    desk = Desk()
    answers = desk.run("table " + text_of(exchange.first_copy()), f"rule {rule}", "begin " + text_of(exchange.second_copy()))
    assert answers == ["ok", "ok", str(len(exchange))], answers
    return desk


def undivided(exchange):
    return Exchange(exchange.first_copy(), exchange.second_copy())


def idle():
    desk = Desk()
    desk.say(FIRST)
    return desk


def busy():
    desk = idle()
    desk.say(SECOND)
    return desk


def seen(desk):
    """What can be seen of a desk."""
    return desk.run("show", "steps", "sentences", "ready", "count")


class Lines(Case):
    def test_the_example(self):
        desk = Desk()
        self.same(desk.run("show", FIRST, SECOND, "do 1", "do 0", "ready"), ["no table", "ok", "3", "2", "refused ThirdAnswer", "2"])
        self.same(desk.run("finish", "tell /s r", "show", "rounds"), ["2 0", "q", "columns r ; row / r q ; row /s/r r y", "refused NoExchange"])
        self.same(desk.run("begin columns r ; row / r q", "judge 0 0", "judge 0", "judge"), ["1", "refused BadPlan", "strict", "strict"])
        self.refused(BadLine, {"word": 2}, desk.say, "tell /s  r")

    def test_table_show_and_tell(self):
        desk = Desk()
        self.same(desk.run("table columns r w ; row / r x ; row /a/b r y w z", "show"), ["ok", "columns r w ; row / r x ; row /a/b r y w z"])
        self.same(desk.run("tell / r", "tell / w", "tell /a/b/c w", "tell /a r", "tell /zz w"), ["x", "-", "z", "x", "-"])
        self.same(desk.run("tell / z", "tell /a columns"), ["refused BadColumn", "refused BadColumn"])
        self.same(desk.run("table columns z", "show"), ["ok", "columns z"])
        self.same([desk.say(line="show"), desk.run()], ["columns z", []])

    def test_a_new_table_forgets_the_old_one(self):
        desk = busy()
        desk.run("do 1")
        self.same(desk.run("table columns z", "show", "steps", "do 0", "rule strict", "table columns z ; row / z x", "begin columns z ; row /a z x", "ready"),
                  ["ok", "columns z", "refused NoExchange", "refused NoExchange", "ok", "ok", "2", "1"])
        # The rule is right again: with strict the taking ahead of the putting would be refused as TooEarly.
        self.same(desk.run("do 0", "table columns r", "rule strict", "table columns r ; row / r x ; row /a r x", "begin columns r", "do 1"),
                  ["refused ThirdAnswer", "ok", "ok", "ok", "2", "1"])

    def test_set_and_drop(self):
        desk = Desk()
        desk.say("table columns r w")
        self.same(desk.run("set /a r x", "set /a/b w y r z", "show"), ["ok", "ok", "columns r w ; row /a r x ; row /a/b r z w y"])
        self.same(desk.run("set /a w u", "show", "drop /a/b", "drop /a/b", "drop /zz", "show"),
                  ["ok", "columns r w ; row /a w u ; row /a/b r z w y", "ok", "refused NoRow", "refused NoRow", "columns r w ; row /a w u"])
        for line in ("set /a z x", "set /c r x z y", "set / r x w y z u", "set / r x w y z u q v"):
            self.same(desk.run(line, "show"), ["refused BadCells", "columns r w ; row /a w u"])
        self.same([desk.say("table " + text_of(forty())), desk.say("set /q r x"), desk.say("set /p10 r new"), desk.say("tell /p10 r")],
                  ["ok", "refused TooMany", "ok", "new"])

    def test_the_rule_stays_behind_set_and_drop(self):
        for rule, answer in (("strict", "refused TooEarly"), ("right", "1")):
            desk = Desk()
            self.same(desk.run("table columns r ; row / r x ; row /z r x", f"rule {rule}", "set /a r x", "drop /z", "begin columns r", "do 1")[3:], ["ok", "2", answer])

    def test_least(self):
        desk = Desk()
        desk.say("table columns r ; row / r x ; row /a r x ; row /a/b r y ; row /a/b/c r y")
        self.same(desk.run("least", "show"), ["columns r ; row / r x ; row /a/b r y", "columns r ; row / r x ; row /a r x ; row /a/b r y ; row /a/b/c r y"])
        self.same(desk.run("begin columns r ; row /z r x", "least"), ["5", "columns r ; row / r x ; row /a/b r y"])

    def test_steps_and_sentences(self):
        self.same(busy().run("steps", "sentences"), ["0 edit /, 1 take /s, 2 put /s/r", "0 1 r turned/old, 2 1 r old/new"])
        desk = Desk()
        self.same(desk.run("table columns r w", "begin columns r w ; row /a r x w y ; row /b w z", "steps", "sentences", "ready", "count", "room", "rounds"),
                  ["ok", "2", "0 put /a, 1 put /b", "none", "0 1", "2", "2", "0 1"])

    def test_begin(self):
        desk = idle()
        self.same(desk.run("begin columns r ; row / r x ; row /s r x", "steps"), ["0", "refused NoExchange"])
        self.same(desk.run("begin columns w", "begin columns r w ; row / r x", "steps"), ["refused UnlikeColumns", "refused UnlikeColumns", "refused NoExchange"])
        desk.say("table " + text_of(forty()))
        self.same(desk.run("begin columns r ; row /q r x", "begin columns r", "steps")[:2], ["refused TooMany", "40"])

    def test_ready_by_both_rules(self):
        self.same(busy().run("ready", "do 1", "ready"), ["0 1 2", "2", "2"])
        desk = idle()
        self.same(desk.run("rule strict", SECOND, "ready", "do 1", "do 2", "ready", "do 0", "ready", "do 1", "ready"),
                  ["ok", "3", "0 2", "refused TooEarly", "2", "0", "1", "1", "0", "refused NoExchange"])
        self.same(desk_of(ringed()).say("ready"), "none")
        self.same(desk_of(ringed(), "strict").say("ready"), "none")

    def test_do_back_and_finish(self):
        desk = busy()
        self.same(desk.run("do 2", "do 2", "do 3", "do 9999", "back", "back", "do 2", "do 1", "back", "finish", "do 0", "back", "finish"),
                  ["2", "refused NoStep", "refused NoStep", "refused NoStep", "2", "refused NoStep", "2", "1", "1", "0 1",
                   "refused NoExchange", "refused NoExchange", "refused NoExchange"])
        self.same(desk_of(ringed()).run("finish", "ready", "steps"), ["refused Ringed", "none", "0 edit /p, 1 edit /p/q"])

    def test_rule(self):
        desk = idle()
        self.same(desk.run("rule strict", "rule right", "rule strict", SECOND, "rule right", "rule strict", "do 1"),
                  ["ok", "ok", "ok", "3", "refused Underway", "refused Underway", "refused TooEarly"])

    def test_judge(self):
        desk = busy()
        self.same(desk.run("judge", "judge 0", "judge 1", "judge 0 2 1", "judge 2 0", "judge 2 1 0", "judge 0 1", "judge 0 0", "judge 3", "judge 0 9999"),
                  ["strict", "strict", "broken 1 /s r", "strict", "strict", "broken 2 /s r", "broken 2 /s/r r", "refused BadPlan", "refused BadPlan", "refused BadPlan"])
        # Of the whole exchange, whatever of it is done.
        self.same(desk.run("do 2", "judge 1", "judge 2"), ["2", "broken 1 /s r", "strict"])

    def test_count_room_and_rounds(self):
        desk = busy()
        wanted = ["2", "3", "0 2 / 1"]
        self.same(desk.run("count", "room", "rounds"), wanted)
        desk.say("do 2")
        self.same(desk.run("count", "room", "rounds"), wanted)
        self.same(desk_of(ringed()).run("count", "room", "rounds"), ["0", "refused Ringed", "refused Ringed"])
        many = desk_of(of_kinds({f"/f{number}": "new" for number in range(10, 35)}))
        self.same(many.run("count", "room"), ["refused TooMany", "refused TooMany"])

    def test_against_the_functions(self):
        random = Random(600)
        for columns, seed in (("r", 601), ("rw", 602)):
            for given in few_steps(seed, 40, 5, columns, 5):
                if not len(given):
                    continue
                exchange = undivided(given)
                desk = desk_of(exchange)
                self.same(desk.say("steps"), ", ".join(f"{number} {step}" for number, step in enumerate(exchange.steps)))
                self.same(desk.say("sentences"), ", ".join(f"{a} {b} {column} {word}" for a, b, column, word in exchange.sentences) or "none")
                self.same(desk.say("count"), str(count(exchange)))
                if count(exchange):
                    self.same(desk.say("room"), str(least_room(exchange)[0]))
                    self.same(desk.say("rounds"), " / ".join(" ".join(map(str, row)) for row in rounds(exchange)))
                numbers = random.sample(range(len(exchange)), random.randint(0, len(exchange)))
                verdict = judge(Plan(exchange, numbers))
                wanted = "strict" if verdict else f"broken {verdict.moment} {verdict.place} {verdict.column}"
                self.same(desk.say(" ".join(["judge", *map(str, numbers)])), wanted)
                self.same(desk.say("least"), text_of(least(exchange.first_copy())))

    def test_ready_is_what_do_would_not_refuse(self):
        random = Random(603)
        for columns, seed in (("r", 604), ("rw", 605), ("rwz", 606)):
            for given in few_steps(seed, 40, 5, columns, 5):
                exchange = undivided(given)
                for rule in ("right", "strict"):
                    if not len(exchange):
                        continue
                    done = []
                    while True:
                        fit = []
                        for number in range(len(exchange)):
                            desk = desk_of(exchange, rule)
                            desk.run(*[f"do {step}" for step in done])
                            if not desk.say(f"do {number}").startswith("refused"):
                                fit.append(number)
                        desk = desk_of(exchange, rule)
                        desk.run(*[f"do {step}" for step in done])
                        self.same(desk.say("ready"), " ".join(map(str, fit)) or "none")
                        if not fit or len(done) + 1 == len(exchange):
                            break
                        done.append(random.choice(fit))


class BadLines(Case):
    def bad(self, line, word):
        for desk in (Desk(), idle(), busy()):
            self.refused(BadLine, {"word": word}, desk.say, line)

    def test_what_is_no_string(self):
        for value in [value for value in values(chain()) if not isinstance(value, str)]:
            self.bad(value, 0)
        self.bad(Desk(), 0)
        self.bad([["show"]], 0)

    def test_other_first_words(self):
        for line in ["", " ", " show", "Show", "SHOW", "shows", "show\n", "show\tx", "\nshow", "help", "table\ncolumns r", "begin\ncolumns r", "refused", "0", "/a", "do0", "none"]:
            self.bad(line, 0)

    def test_words_too_many(self):
        for word in ("show", "least", "steps", "sentences", "ready", "back", "finish", "count", "room", "rounds"):
            for more in ("", "x", "0", "/a", "show"):
                self.bad(f"{word} {more}", 1)
        for line, at in [("tell /a r w", 3), ("tell /a r ", 3), ("drop /a r", 2), ("drop /a /b", 2), ("do 0 1", 2), ("do 0 ", 2), ("rule right right", 2), ("rule strict ", 2)]:
            self.bad(line, at)

    def test_words_missing(self):
        for line, at in [("tell", 1), ("tell /a", 2), ("set", 1), ("set /a", 2), ("set /a r", 3), ("set /a r x w", 5), ("set /a r x w y z", 7), ("drop", 1), ("do", 1),
                         ("rule", 1), ("table", 1), ("begin", 1)]:
            self.bad(line, at)

    def test_places(self):
        for place in [place for place in NO_PLACES if isinstance(place, str) and " " not in place]:
            self.bad(f"tell {place} r", 1)
            self.bad(f"tell {place}", 1)
            self.bad(f"set {place} r x", 1)
            self.bad(f"set {place} R", 1)
            self.bad(f"drop {place}", 1)
            self.bad(f"drop {place} x", 1)

    def test_names(self):
        for name in [name for name in NO_NAMES if isinstance(name, str) and " " not in name]:
            self.bad(f"tell /a {name}", 2)
            self.bad(f"tell /a {name} x", 2)
            self.bad(f"set /a {name} x", 2)
            self.bad(f"set /a {name}", 2)
            self.bad(f"set /a r {name}", 3)
            self.bad(f"set /a r x w {name} z", 5)
            self.bad(f"set /a r x {name} x", 4)

    def test_a_column_twice(self):
        for line, at in [("set /a r x r y", 4), ("set /a r x r", 4), ("set /a r x w y r z", 6), ("set /a r x w y w z", 6), ("set /a z x q y z", 6), ("set /a r x r Y", 4)]:
            self.bad(line, at)
        self.same(idle().say("set /a r r"), "ok")

    def test_numbers(self):
        for word in NO_NUMBERS:
            self.bad(f"do {word}", 1)
            self.bad(f"do {word} 1", 1)
            self.bad(f"judge {word}", 1)
            self.bad(f"judge 0 1 {word} x", 3)
        for desk in (idle(), busy()):
            for word in ("0", "7", "10", "999", "9999"):
                self.assertIs(type(desk.say(f"do {word}")), str)
                self.assertIs(type(desk.say(f"judge {word}")), str)

    def test_rules(self):
        for word in ["", "Right", "rights", "righ", "left", "0", "strict\n", "strictright", "none"]:
            self.bad(f"rule {word}", 1)

    def test_spaces(self):
        for line, at in [("tell /s  r", 2), ("tell  /s r", 1), ("tell /s r ", 3), (" tell /s r", 0), ("judge ", 1), ("judge 0  1", 2), ("judge 0 ", 2), ("set /a r  x", 3),
                         ("show ", 1), ("show  ", 1), ("rule  right", 1)]:
            self.bad(line, at)

    def test_ahead_of_no_table(self):
        desk = Desk()
        self.refused(BadLine, {"word": 1}, desk.say, "show x")
        self.same(desk.run(*ALL), ["no table"] * len(ALL))

    def test_run_with_a_bad_line_in_it(self):
        desk = Desk()
        self.refused(BadLine, {"word": 1}, desk.run, "table columns r", "set /a r x", "do x", "set /b r y", None)
        self.same(desk.say("show"), "columns r ; row /a r x")
        self.refused(BadLine, {"word": 0}, desk.run, "drop /a", None)
        self.same(desk.say("show"), "columns r")


class Texts(Case):
    def test_a_text_that_is_empty(self):
        desk = Desk()
        self.same(desk.run("table ", "table  ", "show"), ["refused BadText", "refused BadText", "no table"])
        desk = idle()
        self.same(desk.run("begin ", "begin  ", "table ", "show"), ["refused BadText"] * 3 + ["columns r ; row / r x ; row /s r x"])

    def test_a_text_with_a_newline(self):
        for text in ["columns r\nrow / r x", "columns r\n", "\ncolumns r", "columns r ; row / r x\n", "columns r \n row / r x", "columns r ;\nrow / r x", "columns\nr",
                     "columns r ; row /a r x\nrow /b r x", "columns r \n; row / r x", "\n"]:
            for desk in (Desk(), idle()):
                before = desk.say("show")
                self.same(desk.run(f"table {text}", f"begin {text}", "show"), ["refused BadText", "no table" if before == "no table" else "refused BadText", before])

    def test_texts_that_are_none(self):
        for text in ["x", "columns", "columns R", "columns r ; ", "columns r ;", " ; columns r", "columns r ; ; row / r x", "columns r ;  row / r x", "columns r  ; row / r x",
                     "columns r;row / r x", "columns r ; row /b r x ; row /a r x", "columns r ; row / w x", "columns r ; order", "columns r\trow", "columns r ; row / r"]:
            desk = idle()
            self.same(desk.run(f"table {text}", f"begin {text}", "show", "steps"),
                      ["refused BadText", "refused BadText", "columns r ; row / r x ; row /s r x", "refused NoExchange"])

    def test_there_and_back_again(self):
        for table in (forty(), Table(["r", "w"]), Table(["w", "r"], {"/": {"r": "0", "w": "row"}, "/a0/ab": {"w": "columns"}})):
            desk = Desk()
            self.same(desk.run("table " + text_of(table), "show"), ["ok", text_of(table)])
            self.assertEqual(read_table(desk.say("show").replace(" ; ", "\n")), table)

    def test_forty_one_rows(self):
        self.same(idle().run("table " + text_of(forty()) + " ; row /q r x", "begin " + text_of(forty()) + " ; row /q r x"), ["refused BadText", "refused BadText"])


class Refused(Case):
    def test_underway_ahead_of_all_else(self):
        desk = busy()
        before = seen(desk)
        for line in ["set /a r x", "set /a zz x", "drop /s", "drop /zz", SECOND, "begin columns w", "begin ", "begin x", "begin columns r\n"]:
            self.same([desk.say(line), seen(desk)], ["refused Underway", before])

    def test_no_exchange(self):
        desk = idle()
        for line in ["steps", "sentences", "ready", "do 0", "do 77", "back", "finish", "judge", "judge 0 0", "judge 99", "count", "room", "rounds"]:
            self.same([desk.say(line), desk.say("show")], ["refused NoExchange", "columns r ; row / r x ; row /s r x"])

    def test_what_is_refused_changes_nothing(self):
        desk = busy()
        desk.say("do 1")
        before = seen(desk)
        for line in ["do 0", "do 1", "do 3", "rule strict", "rule right", "judge 0 0", "table x", "set / r y", "begin columns r", "tell / zz"]:
            answer = desk.say(line)
            self.assertTrue(answer.startswith("refused "), answer)
            self.same(seen(desk), before)
        desk = desk_of(ringed())
        before = seen(desk)
        self.same([desk.say("finish"), desk.say("room"), seen(desk)], ["refused Ringed", "refused Ringed", before])

    def test_names_of_classes(self):
        for line in ("refused BadText", "refused Underway", "refused NoExchange"):
            name = line.split(" ")[1]
            self.assertIn(name, [kind.__name__ for kind in TableError.__subclasses__()])

    def test_each_line_is_answered_by_a_string(self):
        for desk in (Desk(), idle(), busy()):
            for answer in desk.run(*ALL):
                self.assertIs(type(answer), str)


class Copies(Case):
    def test_table_copy(self):
        desk = Desk()
        self.assertIs(desk.table_copy(), None)
        desk.say("table x")
        self.assertIs(desk.table_copy(), None)
        desk = busy()
        self.assertEqual(desk.table_copy(), plain(*ALIKE).first_copy())
        desk.table_copy().take("/")
        desk.say("do 1")
        self.assertEqual(desk.table_copy(), Table.plain("r", {"/": "x"}))

    def test_two_desks(self):
        one, other = Desk(), Desk()
        one.say("table columns r")
        self.same([one.say("show"), other.say("show")], ["columns r", "no table"])
        for value in [*values(chain()), other, Live(Table(["r"])), Place("a")]:
            self.assertIs(one == value, False)


if __name__ == "__main__":
    unittest.main()
