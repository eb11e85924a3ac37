import unittest
from functools import cache
from random import Random

from helpers import NO_NAMES, NO_PLACES, Case, forty, values
from nearestsays.errors import BadText
from nearestsays.exchange import Exchange
from nearestsays.places import Place
from nearestsays.plans import Plan
from nearestsays.tables import Table
from nearestsays.texts import read_plan, read_table, show_plan, show_table
from small import PLACES, few_steps, some_exchanges, some_plans
from test_exchange import plain, two
from test_plans import ALIKE, chain

TABLE = "columns r w\nrow / r x\nrow /a/b r x w y\nrow /ab w 0"
PLAN = ("columns r w\nfirst / r x\nfirst /a r 1 w 2\nfirst /a/b w 9\nsecond /a r 1 w 3\nsecond /b w 4\n"
        "divided /\ndivided /a\norder 3 0 2")
READERS = ((read_table, TABLE), (read_plan, PLAN))

# Ends of texts that miss a place.
PLACE_ENDS = ["", " " + "/zzzzzzzz" * 8]


@cache
def accepted(reader, text):
    """Whether the reader takes a text; what it takes must be written in the same way."""
    try:
        found = reader(text)
    except BadText:
        return False
    shown = show_table(found) if reader is read_table else show_plan(found)
    assert shown == text, (shown, text)
    return True


def can_go_on(reader, text, head):
    """Whether some whole text begins with the first part of one."""
    words = text.replace("\n", " ").split(" ")
    cell_ends = ["", " x", *(f" {column} x" for column in text.split("\n")[0].split(" ")[1:])]
    ends = [place + cells for place in PLACE_ENDS for cells in cell_ends] + [" r"]
    ends += [" " + word for word in words if word.startswith("/")]
    if reader is read_table:
        return any(accepted(reader, head + end) for end in ends)
    return any(accepted(reader, head + end + last) for end in ends for last in ("", "\norder"))


def may_begin(reader, lines, line):
    """Whether a line may begin with its first word, by the first words of the lines ahead."""
    kinds = ["row"] if reader is read_table else ["first", "second", "divided", "order"]
    ahead = [words[0] for words in lines[1:line]]
    if lines[line][0] not in kinds or (ahead and ahead[-1] == "order"):
        return False
    return not ahead or kinds.index(ahead[-1]) <= kinds.index(lines[line][0])


def first_wrong(reader, text):
    """Where a text cannot go on: the first word of which no whole text begins with it and all ahead of it; None if there is none."""
    lines = [line.split(" ") for line in text.split("\n")]
    head = ""
    for line, words in enumerate(lines):
        for word in range(len(words)):
            part = words[word] if word == 0 else " " + words[word]
            part = "\n" + part if word == 0 and line else part
            fits = may_begin(reader, lines, line) if line and word == 0 else can_go_on(reader, text, head + part)
            if not fits:
                return (line, word)
            head += part
        # The words of the line stand, but one may be missing.
        if line + 1 < len(lines):
            behind = [f"\n{start}" for start in ("row", "first", "second", "divided", "order")]
            if not any(can_go_on(reader, text, head + start) for start in behind) and not accepted(reader, head) and not accepted(reader, head + "\norder"):
                return (line, len(words))
    if accepted(reader, text):
        return None
    if reader is read_plan and accepted(reader, text + "\norder"):
        return (len(lines), 0)
    return (len(lines) - 1, len(lines[-1]))


def some_table(random, many, columns):
    rows = {}
    for _ in range(many):
        names = [random.choice(["a", "b", "ab", "a0", "0", "zzzzzzzz"]) for _ in range(random.randint(0, 8))]
        cells = {column: random.choice(["x", "y", "0", "00", "order", "row"]) for column in columns if random.random() < 0.6}
        rows["/" + "/".join(names)] = cells or {random.choice(columns): "x"}
    return Table(columns, rows)


class There(Case):
    def test_the_examples(self):
        self.same(show_plan(Plan(plain(*ALIKE), [2])), "columns r\nfirst / r x\nfirst /s r x\nsecond / r q\nsecond /s/r r y\norder 2")
        self.refused(BadText, {"line": 2, "word": 1}, read_table, "columns r\nrow /b r x\nrow /a r x")

    def test_tables(self):
        table = Table(["r", "w"], {"/ab": {"w": "0"}, "/": {"r": "x"}, "/a/b": {"w": "y", "r": "x"}})
        self.same(show_table(table), TABLE)
        self.assertEqual(read_table(TABLE), table)
        self.same([show_table(table=Table(["w", "r"], {"/": {"r": "x", "w": "y"}})), show_table(Table(["z"]))], ["columns w r\nrow / w y r x", "columns z"])
        self.assertEqual(read_table(text="columns z"), Table(["z"]))

    def test_plans(self):
        first = {"/": {"r": "x"}, "/a": {"r": "1", "w": "2"}, "/a/b": {"w": "9"}}
        plan = Plan(two(first, {"/a": {"r": "1", "w": "3"}, "/b": {"w": "4"}}, ["/a", "/"]), [3, 0, 2])
        self.same(show_plan(plan), PLAN)
        self.assertEqual(read_plan(PLAN), plan)
        self.same(show_plan(plan=Plan(plain({}, {}))), "columns r\norder")
        self.assertEqual(read_plan(text="columns r\norder"), Plan(plain({}, {})))

    def test_tables_there_and_back(self):
        random = Random(500)
        for many in [0, 1, 2, 3, 5, 8, 13, 21, 34, 40, 60]:
            for columns in (["r"], ["w", "r"], ["z", "a", "0"], ["columns", "row", "zzzzzzzz"]):
                table = some_table(random, min(many, 40), columns)
                text = show_table(table)
                self.assertEqual(read_table(text), table)
                self.same(show_table(read_table(text)), text)
        self.assertEqual(read_table(show_table(forty())), forty())

    def test_plans_there_and_back(self):
        random = Random(501)
        for columns, seed in (("r", 502), ("wr", 503), ("rwz", 504)):
            for exchange in some_exchanges(seed, 40, columns, 7):
                for plan in some_plans(exchange, random):
                    text = show_plan(plan)
                    self.assertEqual(read_plan(text), plan)
                    self.same(show_plan(read_plan(text)), text)

    def test_plans_of_forty_rows(self):
        exchange = Exchange(forty(), Table.plain("r", {f"/p{number}": "b" for number in range(10, 50, 2)}), divided=["/p11", "/p20"])
        for numbers in ([], [39], list(range(40)), list(range(39, -1, -1))):
            self.assertEqual(read_plan(show_plan(Plan(exchange, numbers))), Plan(exchange, numbers))
        first = Table(["r", "w", "z"], {f"/p{number}": {"r": "1", "w": "1", "z": "1"} for number in range(10, 50)})
        second = Table(["r", "w", "z"], {f"/p{number}": {"r": "2", "w": "2", "z": "2"} for number in range(10, 50)})
        exchange = Exchange(first, second, divided=first.places)
        plan = Plan(exchange, list(range(119, -1, -1)))
        self.assertEqual(read_plan(show_plan(plan)), plan)

    def test_what_is_written_is_not_changed(self):
        table, plan = forty(), Plan(chain(), [1, 0])
        show_table(table), show_plan(plan)
        self.assertEqual([table, plan], [forty(), Plan(chain(), [1, 0])])


class Wrong(Case):
    def bad(self, reader, text, line, word):
        self.refused(BadText, {"line": line, "word": word}, reader, text)

    def test_what_is_no_string(self):
        for value in [value for value in values(chain()) if not isinstance(value, str)]:
            self.bad(read_table, value, 0, 0)
            self.bad(read_plan, value, 0, 0)

    def test_first_words(self):
        for text, line in [("", 0), (" columns r", 0), ("Columns r", 0), ("column r", 0), ("\ncolumns r", 0), ("row / r x", 0), ("columns\tr", 0),
                           ("columns r\n", 1), ("columns r\n\nrow / r x", 1), ("columns r\nRow / r x", 1), ("columns r\ncolumns r", 1),
                           ("columns r\nrow / r x\n", 2), ("columns r\nrow / r x\n row /a r x", 2), ("columns r\nrow / r x\nfirst /a r x", 2), ("columns r\norder", 1)]:
            self.bad(read_table, text, line, 0)
            if line == 0:
                self.bad(read_plan, text, 0, 0)

    def test_first_words_of_a_plan_in_their_order(self):
        head = ["columns r", "first /a r x", "second /a r y", "divided /a", "order 0"]
        self.assertEqual(read_plan("\n".join(head)), Plan(plain({"/a": "x"}, {"/a": "y"}, ["/a"]), [0]))
        lines = {"row": "row /b r x", "first": "first /b r x", "second": "second /b r y", "divided": "divided /b", "columns": "columns r"}
        for word, after in {"row": range(1, 6), "first": range(3, 6), "second": range(4, 6), "divided": [5], "columns": range(1, 6), "order": [5], "": range(1, 6)}.items():
            for at in after:
                self.bad(read_plan, "\n".join([*head[:at], lines.get(word, word), *head[at:]]), at, 0)
        self.bad(read_plan, "columns r\nsecond /a r x\nfirst /a r y\norder", 2, 0)
        self.bad(read_plan, "columns r\ndivided /a\norder", 1, 1)

    def test_a_missing_order(self):
        for text, line in [("columns r", 1), ("columns r\nfirst /a r x", 2), ("columns r\nfirst /a r x\nsecond /a r y\ndivided /a", 4)]:
            self.bad(read_plan, text, line, 0)
            self.assertIs(type(read_plan(text + "\norder")), Plan)

    def test_lines_behind_order(self):
        for more in ("", "order", "x", "second /a r y", " ", "order 0\norder 0"):
            self.bad(read_plan, "columns r\nfirst /a r x\norder 0\n" + more, 3, 0)
        self.bad(read_plan, "columns r\nfirst /a r x\norder 1\nx", 2, 1)

    def test_columns(self):
        for reader in (read_table, read_plan):
            for text, word in [("columns", 1), ("columns ", 1), ("columns r ", 2), ("columns  r", 1), ("columns r r", 2), ("columns r w r", 3), ("columns r w z q", 4),
                               ("columns r w z r", 4), ("columns r w z ", 4), ("columns R", 1), ("columns r W", 2), ("columns toolongname", 1), ("columns r,w", 1),
                               ("columns r\tw", 1), ("columns /", 1), ("columns r w z q q", 4), ("columns r R w w", 2)]:
                self.bad(reader, text, 0, word)
                self.bad(reader, text + "\nrow / r", 0, word)
            for name in [name for name in NO_NAMES if isinstance(name, str) and not {" ", "\n"} & set(name)]:
                self.bad(reader, f"columns r {name}", 0, 2)

    def rows(self):
        """A reader, what stands ahead of a row, the first word, and the line of the row."""
        yield read_table, "columns r w z\nrow /a/b r x\n", "row", 2
        yield read_plan, "columns r w z\nfirst /a/b r x\n", "first", 2
        yield read_plan, "columns r w z\nfirst /x r x\nsecond /a/b r x\n", "second", 3

    def test_places(self):
        for reader, head, first, line in self.rows():
            for place in [place for place in NO_PLACES if isinstance(place, str) and not {" ", "\n"} & set(place)] + ["/a", "/", "/a/b", "/a/a0", "/a/0"]:
                self.bad(reader, f"{head}{first} {place} r x", line, 1)
                self.bad(reader, f"{head}{first} {place}", line, 1)
                self.bad(reader, f"{head}{first} {place} q", line, 1)
            for place in ("/a/b/0", "/a/b0", "/a0", "/b"):
                self.bad(reader, f"{head}{first} {place} r x ", line, 4)
            self.bad(reader, f"{head}{first}", line, 1)
            self.bad(reader, f"{head}{first} ", line, 1)
            self.bad(reader, f"{head}{first}  /b r x", line, 1)

    def test_cells(self):
        for reader, head, first, line in self.rows():
            start = f"{head}{first} /b"
            for cells, word in [("", 2), (" r", 3), (" r x w", 5), (" r x w y z", 7), (" q x", 2), (" r x q y", 4), (" r x r y", 4), (" w x r y", 4), (" z x r y", 4),
                                (" z x w y", 4), (" r x z y w x", 6), (" r x w y z u r v", 8), (" r x w y z u q", 8), (" r X", 3), (" r toolongname", 3), (" r x-y", 3),
                                (" r ", 3), (" r x ", 4), ("  r x", 2), (" r  x", 3), (" r x  w y", 4), (" r /", 3), (" R x", 2), (" r\tx", 2), (" r x\tw y", 3), (" r None", 3)]:
                self.bad(reader, start + cells, line, word)
                self.bad(reader, start + cells + f"\n{first} /c r x" if word < len((start + cells).split("\n")[-1].split(" ")) else start + cells, line, word)

    def test_divided(self):
        head = "columns r w\nfirst /a r x\nfirst /b r x\nfirst /k r x\nsecond /a r y\nsecond /c w z\nsecond /k r x\n"
        for lines, line, word in [("divided /k\norder", 7, 1), ("divided /z\norder", 7, 1), ("divided /\norder", 7, 1), ("divided\norder", 7, 1), ("divided \norder", 7, 1),
                                  ("divided a\norder", 7, 1), ("divided /a x\norder", 7, 2), ("divided /a /b\norder", 7, 2), ("divided /a \norder", 7, 2),
                                  ("divided /k x\norder", 7, 1), ("divided /b\ndivided /a\norder", 8, 1), ("divided /b\ndivided /b\norder", 8, 1),
                                  ("divided /a\ndivided /k\norder", 8, 1), ("divided /a\ndivided /c\nx", 9, 0)]:
            self.bad(read_plan, head + lines, line, word)
        self.same(read_plan(head + "divided /a\ndivided /b\ndivided /c\norder").exchange.divided, ("/a", "/b", "/c"))

    def test_numbers(self):
        head = "columns r\nfirst /a r x\nsecond /b r y\norder"
        for numbers, word in [(" 2", 1), (" 0 2", 2), (" 0 0", 2), (" 1 0 1", 3), (" 1 0 2", 3), (" 00", 1), (" 01", 1), (" -0", 1), (" -1", 1), (" +1", 1), (" 1.0", 1),
                              (" x", 1), ("  0", 1), (" ", 1), (" 0 ", 2), (" 0  1", 2), (" 0x0", 1), (" 1e0", 1), (" 0\t1", 1), (" 1_0", 1), (" " + "9" * 1900, 1),
                              (" True", 1), (" 0,1", 1), (" 0 1 x", 3), (" 0 x 1", 2)]:
            self.bad(read_plan, head + numbers, 3, word)
        for numbers, wanted in [("", ()), (" 0", (0,)), (" 1", (1,)), (" 1 0", (1, 0)), (" 0 1", (0, 1))]:
            self.same(read_plan(head + numbers).numbers, wanted)

    def test_numbers_of_two_digits(self):
        head = show_table(forty()).replace("row", "first") + "\norder"
        self.same(read_plan(head + " 39 10 9").numbers, (39, 10, 9))
        for numbers, word in [(" 40", 1), (" 10 010", 2), (" 10 9 10", 3), (" 9 09", 2)]:
            self.bad(read_plan, head + numbers, 41, word)


class TooMany(Case):
    def bad(self, reader, text, line, word):
        self.refused(BadText, {"line": line, "word": word}, reader, text)

    def test_the_forty_first_row(self):
        text = show_table(forty())
        self.assertEqual(len(read_table(text)), 40)
        for row in ("row /q r x", "row /q", "row /q x y z", "row /a r x", "row /p10/a", "row / "):
            self.bad(read_table, f"{text}\n{row}", 41, 0)
        # No place more, or none at all: then it is another word.
        for row in ("row /p49 r x", "row /p10", "row q r x", "row", "row ", "row /p49/ r x"):
            self.bad(read_table, f"{text}\n{row}", 41, 1)
        self.bad(read_table, f"{text}\nrows /q r x", 41, 0)
        self.bad(read_table, text.replace("row /p20 r a20", "row /p20 R a20") + "\nrow /q r x", 11, 2)

    def test_the_forty_first_place_of_a_plan(self):
        text = show_table(forty()).replace("row", "first")
        self.bad(read_plan, f"{text}\nfirst /q r x\norder", 41, 0)
        self.bad(read_plan, f"{text}\nfirst /p49 r x\norder", 41, 1)
        for row in ("second /q r x", "second /q", "second /a r", "second /p10/a r x"):
            self.bad(read_plan, f"{text}\n{row}\norder", 41, 0)
        self.assertEqual(len(read_plan(f"{text}\nsecond /p10 r x\nsecond /p49 r x\norder").exchange), 40)
        self.bad(read_plan, f"{text}\nsecond /p10 r x\nsecond /q r x\norder", 42, 0)
        self.bad(read_plan, f"{text}\nsecond /p10 r x\nsecond /p10 r x\norder", 42, 1)
        self.bad(read_plan, f"{text}\nsecond /p10\norder", 41, 2)

    def test_of_both_tables_together(self):
        first = "\n".join(f"first /p{number} r x" for number in range(10, 40))
        second = "\n".join(f"second /p{number} r x" for number in range(30, 50))
        self.same(len(read_plan(f"columns r\n{first}\n{second}\norder").exchange.places), 40)
        self.bad(read_plan, f"columns r\n{first}\n{second}\nsecond /q r x\norder", 51, 0)
        self.bad(read_plan, f"columns r\n{first}\n{second}\nsecond /p10 r x\norder", 51, 1)
        self.bad(read_plan, f"columns r\n{first}\nsecond /a r x\n{second}\norder", 51, 0)
        late = second.replace("/p49", "/z")
        self.same(len(read_plan(f"columns r\n{first}\n{late}\norder").exchange.places), 40)


class Spoiled(Case):
    def spoils(self, text, random):
        """The text spoiled at one place, in many ways."""
        lines = text.split("\n")
        words = [line.split(" ") for line in lines]
        for at in range(len(lines)):
            yield lines[:at] + lines[at + 1:]
            yield lines[:at + 1] + lines[at:]
            other = random.randrange(len(lines))
            changed = list(lines)
            changed[at], changed[other] = lines[other], lines[at]
            yield changed
            for spot in range(len(words[at])):
                row, word = words[at], words[at][spot]
                new = random.choice(["x", "r", "w", "/a", "/zz", "0", "1", "row", "first", "second", "divided", "order", "columns", "", "00", "toolongname"])
                cut = random.randint(0, len(word))
                for changed in (row[:spot] + row[spot + 1:], row[:spot + 1] + row[spot:], [*row[:spot], new, *row[spot + 1:]], [*row[:spot], new, *row[spot:]],
                                [*row[:spot], "", *row[spot:]], [*row[:spot], word[:cut] + random.choice("-%.A\t;?/0") + word[cut:], *row[spot + 1:]],
                                [*row[:spot], word.upper(), *row[spot + 1:]], [*row[:spot], "0" + word, *row[spot + 1:]]):
                    yield [*lines[:at], " ".join(changed), *lines[at + 1:]]
        yield [*lines, ""]
        yield ["", *lines]
        yield [*lines[:-1], lines[-1] + " "]
        yield [" " + lines[0], *lines[1:]]

    def check(self, reader, text, random):
        seen = 0
        for lines in self.spoils(text, random):
            spoiled = "\n".join(lines)
            wanted = first_wrong(reader, spoiled)
            if wanted is None:
                self.assertIs(accepted(reader, spoiled), True)
                continue
            self.refused(BadText, {"line": wanted[0], "word": wanted[1]}, reader, spoiled)
            seen += 1
        return seen

    def test_tables(self):
        random = Random(505)
        seen = self.check(read_table, TABLE, random)
        for columns in (["r"], ["r", "w"], ["r", "w", "z"]):
            for many in (0, 2):
                seen += self.check(read_table, show_table(some_table(random, many, columns)), random)
        self.assertGreater(seen, 400)

    def test_plans(self):
        random = Random(506)
        seen = self.check(read_plan, PLAN, random)
        for columns, seed in (("r", 507), ("rw", 508)):
            for exchange in few_steps(seed, 2, 4, columns, 3):
                plan = next(some_plans(exchange, random))
                seen += self.check(read_plan, show_plan(plan), random)
        self.assertGreater(seen, 500)

    def test_all_values_that_are_no_texts(self):
        for reader, text in READERS:
            self.assertIs(accepted(reader, text), True)
            for value in ("", "x", "\n", " ", "\t", "columns", Place("a").text, *PLACES[:3]):
                self.assertIs(accepted(reader, value), False)


if __name__ == "__main__":
    unittest.main()
