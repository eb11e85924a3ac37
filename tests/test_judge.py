import unittest
from itertools import permutations
from random import Random

from helpers import Case, names_of, same, told_by, values
from nearestsays.exchange import Exchange
from nearestsays.judge import Broken, Strict, Verdict, broken, judge, shows, third
from nearestsays.places import Place
from nearestsays.plans import Plan
from nearestsays.tables import Table
from small import PLACES, broken_at, cells_heard, few_steps, rows_at, some_exchanges, some_plans, third_places
from test_exchange import of_kinds, plain, two
from test_plans import ALIKE, chain

SIX = {"old/old": (1, 2), "old/new": (2, 1), "new/old": (1, 2), "new/new": (2, 1), "turned/new": (2, 1), "turned/old": (1, 2)}


def beside(word):
    """Two steps that a sentence binds, 1 and 2, and two free ones, 0 and 3."""
    upper, lower = word.split("/")
    return of_kinds({"/a": "new", "/p": upper, "/p/q": lower, "/z": "old"})


class BrokenSentences(Case):
    def test_each_of_the_six_at_each_moment(self):
        for word, (ahead, behind) in SIX.items():
            exchange = beside(word)
            sentence = (ahead, behind, "r", word)
            self.same(exchange.sentences, (sentence,))
            for numbers in [(behind,), (behind, 0), (behind, ahead), (behind, 0, ahead, 3), (0, behind), (3, behind, 0), (0, behind, ahead),
                            (3, 0, behind), (0, 3, behind, ahead), (3, behind, ahead, 0)]:
                wanted = (numbers.index(behind) + 1, "/p/q", "r", sentence)
                self.same(broken(Plan(exchange, numbers)), wanted)
            for numbers in [(), (ahead,), (0, 3), (ahead, behind), (ahead, 0, behind), (0, 3, ahead, behind), (3, ahead, 0, behind)]:
                self.same(broken(Plan(exchange, numbers)), None)

    def test_none_for_pairs_without_a_sentence(self):
        for pair in ["old/turned", "new/turned", "turned/turned", "kept/old", "kept/new", "old/kept", "kept/turned"]:
            exchange = beside(pair)
            for numbers in permutations(range(len(exchange))):
                self.same(broken(Plan(exchange, numbers)), None)

    def test_of_several_the_first_one(self):
        exchange = of_kinds({"/": "turned", "/a": "new", "/b": "new", "/c": "old"})
        self.same(broken(Plan(exchange, [0])), (1, "/a", "r", (1, 0, "r", "turned/new")))
        self.same(broken(Plan(exchange, [1, 0])), (2, "/b", "r", (2, 0, "r", "turned/new")))
        self.same(broken(Plan(exchange, [1, 2, 0, 3])), None)

    def test_the_least_moment_goes_ahead_of_the_order_of_the_sentences(self):
        exchange = of_kinds({"/a": "old", "/a/b": "new", "/c": "old", "/c/d": "old"})
        self.same(broken(Plan(exchange, [3, 0])), (1, "/c/d", "r", (2, 3, "r", "old/old")))
        self.same(broken(Plan(exchange, [0, 3])), (1, "/a/b", "r", (1, 0, "r", "old/new")))

    def test_several_columns(self):
        exchange = two({"/p": {"r": "1"}, "/p/q": {"r": "2"}}, {"/p": {"w": "3"}, "/p/q": {"w": "4"}})
        self.same(broken(Plan(exchange, [0])), (1, "/p/q", "w", (1, 0, "w", "new/new")))
        self.same(broken(Plan(exchange, [1, 0])), (1, "/p/q", "r", (0, 1, "r", "old/old")))
        both = two({"/p": {"r": "1", "w": "2"}, "/p/q": {"r": "3", "w": "4"}}, {})
        self.same(broken(Plan(both, [1])), (1, "/p/q", "r", (0, 1, "r", "old/old")))

    def test_the_steps_of_divided_places(self):
        exchange = two({"/p": {"r": "1"}, "/p/q": {"r": "2"}}, {"/p": {"w": "3"}, "/p/q": {"w": "4"}}, ["/p"])
        self.same(broken(Plan(exchange, [1, 0])), (1, "/p/q", "w", (2, 1, "w", "new/new")))
        self.same(broken(Plan(exchange, [0, 2, 1])), None)

    def test_none_exactly_for_strict_plans(self):
        random = Random(40)
        found = 0
        for exchange in some_exchanges(40, 150):
            for plan in some_plans(exchange, random):
                self.assertIs(broken(plan) is None, plan.is_strict)
                found += broken(plan) is not None
        self.assertGreater(found, 100)

    def test_the_place_hears_a_cell_of_neither_table(self):
        random = Random(41)
        for columns, seed in (("rw", 41), ("r", 42), ("rwz", 43)):
            for exchange in some_exchanges(seed, 80, columns):
                whole = [cells_heard(exchange, done) for done in ((), range(len(exchange)))]
                for plan in some_plans(exchange, random):
                    wanted = broken_at(exchange, plan.numbers)
                    if wanted is None:
                        self.assertIsNone(broken(plan))
                        continue
                    moment, place, column, sentence = broken(plan)
                    heard = cells_heard(exchange, plan.numbers[:moment])
                    strange = [spot for spot in heard if heard[spot] not in (whole[0][spot], whole[1][spot])]
                    self.same([moment, (place, column)], [wanted[0], sorted(wanted[1], key=lambda cell: (cell[0], columns.index(cell[1])))[0]])
                    self.same((place, column), min(strange, key=lambda cell: (cell[0], columns.index(cell[1]))))
                    self.assertIn(sentence, exchange.sentences)


class ThirdAnswers(Case):
    def test_the_least_moment_the_place_and_the_answer(self):
        self.same(third(Plan(chain(), [0])), (1, "/p/q", "r", None))
        self.same(third(Plan(chain(), [1, 0, 2])), (3, "/p/q/r/s", "r", "2"))
        self.same(third(Plan(chain(), [1, 2, 0, 3])), (2, "/p/q/r/s", "r", "2"))
        self.same(third(Plan(chain(), [3, 0, 1, 2])), (2, "/p/q", "r", None))
        self.same([third(Plan(chain(), row)) for row in ([], [1], [1, 0, 3, 2])], [None, None, None])

    def test_none_is_an_answer(self):
        exchange = plain({"/": "x"}, {"/a": "y", "/b": "z"})
        self.same(third(Plan(exchange, [0])), (1, "/a", "r", None))
        self.same(third(Plan(exchange, [1, 0])), (2, "/b", "r", None))

    def test_right_though_not_strict(self):
        exchange = plain(*ALIKE)
        self.same([third(Plan(exchange, [1, 2, 0])), broken(Plan(exchange, [1, 2, 0]))],
                  [None, (1, "/s", "r", (0, 1, "r", "turned/old"))])
        self.same(third(Plan(exchange, [0, 1, 2])), (2, "/s/r", "r", "q"))
        self.same(third(Plan(exchange, [1, 0, 2])), (2, "/s/r", "r", "q"))

    def test_the_first_column(self):
        exchange = two({"/p": {"r": "1", "w": "1"}, "/p/q": {"r": "2", "w": "2"}}, {"/": {"r": "9", "w": "9"}})
        self.same(third(Plan(exchange, [2])), (1, "/p/q", "r", "1"))
        turned = Exchange(Table(["w", "r"], {"/p": {"r": "1", "w": "1"}}), Table(["w", "r"], {"/": {"r": "9", "w": "9"}}))
        self.same(third(Plan(turned, [1])), (1, "/p", "w", None))
        only = two({"/p": {"w": "1"}, "/p/q": {"r": "2", "w": "2"}}, {"/": {"r": "9", "w": "9"}})
        self.same(third(Plan(only, [2])), (1, "/p/q", "r", None))

    def test_against_a_look_at_every_place(self):
        random = Random(44)
        found = 0
        for columns, seed in (("rw", 44), ("r", 45), ("rwz", 46)):
            for exchange in some_exchanges(seed, 80, columns):
                for plan in some_plans(exchange, random):
                    wanted = None
                    for moment in range(len(plan) + 1):
                        spots = third_places(exchange, plan.numbers[:moment])
                        if spots:
                            place, column = min(spots, key=lambda cell: (cell[0], columns.index(cell[1])))
                            heard = told_by(rows_at(exchange, plan.numbers[:moment]), place, column)
                            wanted = (moment, place, column, heard)
                            break
                    self.same(third(plan), wanted)
                    self.assertIs(plan.is_right, wanted is None)
                    found += wanted is not None
        self.assertGreater(found, 200)


class Verdicts(Case):
    def test_strict(self):
        plan = Plan(chain(), [1, 0])
        verdict = judge(plan)
        self.assertIs(type(verdict), Strict)
        self.assertIsInstance(verdict, Verdict)
        self.assertIs(bool(verdict), True)
        self.same([verdict.word, verdict.spots], ["strict", ((0, 1), (0, None), (None, None))])
        self.assertEqual(verdict.plan, plan)
        self.same(verdict.paper(), ("strict", (1, 0), ((0, 1), (0, None), (None, None))))

    def test_broken(self):
        plan = Plan(chain(), [1, 2])
        verdict = judge(plan)
        self.assertIs(type(verdict), Broken)
        self.assertIsInstance(verdict, Verdict)
        self.assertIs(bool(verdict), False)
        self.same([verdict.word, verdict.moment, verdict.place, verdict.column, verdict.heard],
                  ["broken", 2, "/p/q/r/s", "r", ("/p/q", "second")])
        self.assertEqual(verdict.plan, plan)
        self.same(verdict.paper(), ("broken", (1, 2), 2, "/p/q/r/s", "r", ("/p/q", "second")))

    def test_made_with_its_attributes(self):
        plan = Plan(chain(), [1, 2])
        self.assertEqual(Broken(plan, 2, "/p/q/r/s", "r", ("/p/q", "second")), judge(plan))
        self.assertEqual(Broken(heard=("/p/q", "second"), column="r", place="/p/q/r/s", moment=2, plan=plan), judge(plan))
        self.assertEqual(Strict(plan.head(1), ((0, None), (0, None), (None, None))), judge(plan.head(1)))
        self.assertEqual(Strict(spots=((0, None), (0, None), (None, None)), plan=plan.head(1)), judge(plan=plan.head(1)))

    def test_spots(self):
        for numbers, spots in {
            (): ((None, None), (None, None), (None, None)),
            (3,): ((None, None), (None, None), (0, None)),
            (1, 3, 2): ((0, None), (0, 2), (1, 2)),
            (3, 1, 0, 2): ((1, 2), (1, 3), (0, 3)),
        }.items():
            self.same(judge(Plan(chain(), numbers)).spots, spots)
        self.same(judge(Plan(plain({}, {}))).paper(), ("strict", (), ()))

    def test_heard(self):
        heard = {
            "none": (of_kinds({"/p": "old", "/p/q": "new"}), [0], None),
            "first": (of_kinds({"/p": "old", "/p/q": "old"}), [1], ("/p", "first")),
            "second": (of_kinds({"/p": "turned", "/p/q": "new"}), [0], ("/p", "second")),
            "both": (of_kinds({"/": "kept", "/p": "old", "/p/q": "new"}), [0], ("/", "both")),
            "further up": (of_kinds({"/": "turned", "/p": "old", "/p/q": "new"}), [0, 1], ("/", "second")),
        }
        for exchange, numbers, wanted in heard.values():
            verdict = judge(Plan(exchange, numbers))
            self.same([verdict.word, verdict.heard], ["broken", wanted])
            self.assertIs(shows(exchange, verdict.paper()), True)

    def test_equality(self):
        made = [judge(Plan(chain(), row)) for row in ([], [1], [1, 3], [3, 1], [2], [2, 0], [0], [1, 0, 2])]
        for at, one in enumerate(made):
            for other_at, other in enumerate(made):
                self.assertIs(one == other, at == other_at)
                self.assertIs(one != other, at != other_at)
            self.assertTrue(one == judge(Plan(chain(), list(one.plan.numbers))))
            for value in [*values(chain()), one.paper(), one.plan, one.word]:
                self.assertIs(one == value, False)

    def test_equality_on_unlike_exchanges(self):
        other = plain({"/p": "1", "/p/q/r": "3"}, {"/p/q": "5", "/p/q/r/s": "4"})
        for row in ([], [1], [1, 0], [2], [1, 2]):
            self.assertEqual(judge(Plan(chain(), row)).paper(), judge(Plan(other, row)).paper())
            self.assertIs(judge(Plan(chain(), row)) == judge(Plan(other, row)), False)

    def test_unlike_attributes(self):
        plan = Plan(chain(), [1, 2])
        verdict = Broken(plan, 2, "/p/q/r/s", "r", ("/p/q", "second"))
        for other in [Broken(plan, 1, "/p/q/r/s", "r", ("/p/q", "second")), Broken(plan, 2, "/p/q/r", "r", ("/p/q", "second")),
                      Broken(plan, 2, "/p/q/r/s", "w", ("/p/q", "second")), Broken(plan, 2, "/p/q/r/s", "r", None),
                      Broken(plan.head(1), 2, "/p/q/r/s", "r", ("/p/q", "second")), Strict(plan, ()), Verdict(plan)]:
            self.assertIs(verdict == other, False)
        self.assertIs(Strict(plan, ()) == Strict(plan, ((0, 1),)), False)

    def test_the_base_class(self):
        plan = Plan(chain(), [1, 2])
        verdict = Verdict(plan)
        self.assertEqual(verdict.plan, plan)
        self.assertIs(type(verdict.word), str)
        self.same(verdict.paper(), (verdict.word, (1, 2)))
        self.same([verdict == Verdict(Plan(chain(), (1, 2))), verdict == Verdict(plan.head(1)), verdict == Verdict(Plan(chain().divide("/p"), (1, 2)))],
                  [True, False, False])
        for other in [judge(plan), judge(plan.head(1)), Strict(plan, ()), *values(chain())]:
            self.same([verdict == other, other == verdict], [False, False])

    def test_judge_agrees_with_broken(self):
        random = Random(47)
        for exchange in some_exchanges(47, 120):
            for plan in some_plans(exchange, random):
                verdict, found = judge(plan), broken(plan)
                self.same([bool(verdict), verdict.word], [found is None, "strict" if found is None else "broken"])
                self.assertIs(shows(exchange, verdict.paper()), True)
                if found:
                    self.same((verdict.moment, verdict.place, verdict.column), found[:3])
                    self.same(verdict.heard, cells_heard(exchange, plan.numbers[:found[0]])[found[1:3]])


def makes_plan(exchange, numbers):
    return (
        type(numbers) is tuple and all(type(number) is int and 0 <= number < len(exchange) for number in numbers)
        and len(set(numbers)) == len(numbers)
    )


def heard_by(exchange, done, place, column):
    """The cell that any place hears, found in the rows that stand."""
    rows = rows_at(exchange, done)
    spots = [spot for spot in rows if column in rows[spot] and names_of(place)[:len(names_of(spot))] == names_of(spot)]
    if not spots:
        return None
    spot = max(spots, key=len)
    if exchange.kind(spot, column) == "kept":
        return (spot, "both")
    return (spot, "second" if exchange.number_of(spot, column) in done else "first")


def truth(exchange, paper):
    """Whether a paper shows what it says, told in the tests' own way."""
    if type(paper) is not tuple or len(paper) < 3 or not makes_plan(exchange, paper[1]):
        return False
    numbers = paper[1]
    if paper[0] == "strict":
        at = {number: index for index, number in enumerate(numbers)}
        spots = tuple((at.get(sentence[0]), at.get(sentence[1])) for sentence in exchange.sentences)
        kept = all(late is None or (soon is not None and soon < late) for soon, late in spots)
        return kept and same(paper, ("strict", numbers, spots))
    if paper[0] != "broken" or len(paper) != 6:
        return False
    moment, place, column, heard = paper[2:]
    if type(moment) is not int or not 0 <= moment <= len(numbers) or type(place) is not str or type(column) is not str:
        return False
    if column not in exchange.first_copy().columns or not (place == "/" or all(place.split("/")[1:])) or not place.startswith("/"):
        return False
    cell = heard_by(exchange, numbers[:moment], place, column)
    return same(heard, cell) and cell not in [heard_by(exchange, done, place, column) for done in ((), range(len(exchange)))]


def varied(value):
    """Everything that is the value with one thing otherwise, also in kind."""
    if isinstance(value, tuple):
        yield list(value)
        yield value + (value[-1:] or (0,))
        yield (*value, None)
        yield value[:-1]
        yield value[1:]
        yield value[::-1]
        for at, part in enumerate(value):
            for other in varied(part):
                yield (*value[:at], other, *value[at + 1:])
    elif isinstance(value, int):
        yield from (value + 1, value - 1, bool(value), float(value), str(value), None, (value,), -value)
    elif isinstance(value, str):
        yield from (value + "x", value[1:], value.upper(), "", None, 0, "/", "/p", "/p/q/r/s/t", "r", "w", "first", "second", "both", "strict", "broken")
        if value.startswith("/"):
            yield from (Place.read(value), value + "/", value[:-1] or "/")
    else:
        yield from (0, 1, False, "None", (), ("/p", "first"), "r")


class Papers(Case):
    def check(self, exchange, paper):
        self.assertIs(shows(exchange, paper), truth(exchange, paper), f"{paper!r}")
        return truth(exchange, paper)

    def test_papers_of_judge_with_one_thing_otherwise(self):
        for exchange in (chain(), of_kinds({"/": "kept", "/p": "old", "/p/q": "new"}), plain(*ALIKE),
                         two({"/p": {"r": "1"}, "/p/q": {"r": "2"}}, {"/p": {"w": "3"}, "/p/q": {"w": "4"}}, ["/p"])):
            for size in range(len(exchange) + 1):
                for numbers in permutations(range(len(exchange)), size):
                    paper = judge(Plan(exchange, numbers)).paper()
                    self.assertTrue(self.check(exchange, paper))
                    if size < 4:
                        for other in varied(paper):
                            self.check(exchange, other)

    def test_papers_of_any_moment_place_and_column(self):
        random = Random(50)
        found = 0
        for exchange in [*some_exchanges(50, 12), *some_exchanges(51, 8, "r"), *some_exchanges(52, 5, "rwz")]:
            whole = [cells_heard(exchange, done) for done in ((), range(len(exchange)))]
            for plan in some_plans(exchange, random):
                for moment in range(len(plan) + 1):
                    heard = cells_heard(exchange, plan.numbers[:moment])
                    for (place, column), cell in heard.items():
                        strange = cell not in (whole[0][(place, column)], whole[1][(place, column)])
                        paper = ("broken", plan.numbers, moment, place, column, cell)
                        self.assertIs(shows(exchange, paper), strange)
                        found += strange
        self.assertGreater(found, 60)

    def test_it_need_not_be_the_least_one(self):
        paper = ("broken", (1, 2, 0), 3, "/p/q/r/s", "r", ("/p/q", "second"))
        self.assertIs(shows(chain(), paper), True)
        for place in ("/p/q/r/s/t", "/p/q/r/s/t/u/v/w"):
            self.assertIs(shows(chain(), ("broken", (1, 2), 2, place, "r", ("/p/q", "second"))), True)
        for place in ("/p/q/r", "/p/q/r/x", "/p/q", "/p", "/", "/x"):
            for cell in (("/p/q", "second"), ("/p", "first"), None):
                self.assertIs(shows(chain(), ("broken", (1, 2), 2, place, "r", cell)), False)

    def test_a_paper_for_a_plan_that_is_right(self):
        exchange = plain(*ALIKE)
        self.assertIs(Plan(exchange, [1, 2]).is_right, True)
        self.assertIs(shows(exchange, ("broken", (1, 2), 1, "/s", "r", ("/", "first"))), True)

    def test_kept_cells_are_one_cell(self):
        exchange = of_kinds({"/": "kept", "/p": "old", "/p/q": "new"})
        self.assertIs(shows(exchange, ("broken", (0,), 1, "/p/q", "r", ("/", "both"))), True)
        self.assertIs(shows(exchange, ("broken", (0,), 1, "/p", "r", ("/", "both"))), False)
        for word in ("first", "second"):
            self.assertIs(shows(exchange, ("broken", (0,), 1, "/p/q", "r", ("/", word))), False)

    def test_broken_papers_for_strict_plans_and_the_other_way_round(self):
        for numbers in permutations(range(4)):
            plan = Plan(chain(), numbers)
            at = {number: index for index, number in enumerate(numbers)}
            spots = tuple((at[sentence[0]], at[sentence[1]]) for sentence in chain().sentences)
            self.assertIs(shows(chain(), ("strict", numbers, spots)), plan.is_strict)

    def test_numbers_that_make_no_plan(self):
        none = ((None, None),) * 3
        for numbers in [(4,), (-1,), (1, 1), (True,), (1, False), ("1",), (None,), ((1,),), (1.0,), [], [1], "1", 1, None, {1: 1}, Plan(chain(), [1])]:
            self.assertIs(shows(chain(), ("strict", numbers, none)), False)
            self.assertIs(shows(chain(), ("broken", numbers, 1, "/p", "r", None)), False)
        self.assertIs(shows(chain(), ("strict", (), none)), True)
        self.assertIs(shows(chain(), ("strict", [], none)), False)

    def test_places_and_columns_of_all_kinds(self):
        for value in values(chain()):
            self.assertIs(shows(chain(), ("broken", (1, 2), 2, value, "r", ("/p/q", "second"))), False)
            self.assertIs(shows(chain(), ("broken", (1, 2), 2, "/p/q/r/s", value, ("/p/q", "second"))), False)
            self.assertIs(shows(chain(), ("broken", (1, 2), 2, "/p/q/r/s", "r", value)), False)
            self.assertIs(shows(chain(), ("broken", (1, 2), value, "/p/q/r/s", "r", ("/p/q", "second"))), False)
            self.assertIs(shows(chain(), (value, (1, 2), 2, "/p/q/r/s", "r", ("/p/q", "second"))), value == "broken")
            self.assertIs(shows(chain(), ("strict", (1,), value)), False)
        for place in ["", "p", "/p/q/r/s/", "/P", "/" + "a" * 9, "/p" * 9, Place("p", "q", "r", "s")]:
            self.assertIs(shows(chain(), ("broken", (1, 2), 2, place, "r", ("/p/q", "second"))), False)

    def test_values_of_all_kinds(self):
        for value in [*values(chain()), ("strict",), ("broken",), ("strict", ()), ("strict", (), (), ()), judge(Plan(chain()))]:
            self.assertIs(shows(chain(), value), False)
        self.assertIs(shows(exchange=chain(), paper=judge(Plan(chain(), [1])).paper()), True)

    def test_against_the_oracle_on_small_exchanges(self):
        random = Random(53)
        for exchange in few_steps(53, 6, 4, "rw", 3):
            for plan in some_plans(exchange, random):
                for other in varied(judge(plan).paper()):
                    self.check(exchange, other)


if __name__ == "__main__":
    unittest.main()
