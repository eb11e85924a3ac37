import unittest
from random import Random

from helpers import NO_NAMES, NO_PLACES, Case, same, told_by, values
from nearestsays.errors import BadHearings, Contradiction, Ringed
from nearestsays.heard import Hearings, contradiction, shows_contradiction
from nearestsays.places import Place
from nearestsays.plans import Plan
from nearestsays.rings import is_ring
from nearestsays.standings import table_at
from small import PLACES, few_steps, forty_with_a_ring, is_closed, ringed, rows_at, sets_of
from test_exchange import of_kinds, plain, two
from test_plans import chain

ROWS = [[("/p", "r", None)], [("/p/q", "r", "1")]]

# For the chain of four: values that are no hearing.
NO_HEARINGS = [
    None, True, 0, "", "/p", (), [], {}, ("/p",), ("/p", "r"), ("/p", "r", "1", "1"), ["/p", "r", "1"], [("/p", "r", "1")], (("/p", "r", "1"),),
    *[(place, "r", "1") for place in NO_PLACES], *[("/p", column, "1") for column in [*NO_NAMES, "w", "x"]],
    *[("/p", "r", answer) for answer in NO_NAMES if answer is not None], {"/p": "r"}, chain(), Place("p"),
]


def kept():
    """A kept cell, two equal answers, a place that is told nothing, and one column that nothing changes."""
    first = {"/a": {"r": "1", "w": "k"}, "/b": {"r": "2"}, "/b/c": {"r": "3"}}
    return two(first, {"/a": {"r": "9", "w": "k"}, "/b": {"r": "3"}, "/d": {"w": "7"}})


def strict_sets(exchange):
    return [done for done in sets_of(exchange) if is_closed(exchange, done)]


def fits(exchange, moments):
    """For each moment the strict standings that some plan with these hearings has then."""
    told = {}
    for done in strict_sets(exchange):
        told[done] = rows_at(exchange, done)

    def agrees(done, row):
        return all(told_by(told[done], str(place), column) == answer for place, column, answer in row)

    levels = [[done for done in told if agrees(done, row)] for row in moments]
    for at in range(1, len(levels)):
        levels[at] = [done for done in levels[at] if any(set(less) <= set(done) for less in levels[at - 1])]
    for at in range(len(levels) - 2, -1, -1):
        levels[at] = [done for done in levels[at] if any(set(done) <= set(more) for more in levels[at + 1])]
    return levels


def impossible(exchange, row):
    """Whether a hearing is neither of the two answers of its place."""
    place, column, answer = row
    return answer not in (exchange.first_copy().told(place, column) + exchange.second_copy().told(place, column))


def some_hearing(exchange, random, strange):
    """A hearing at any place of the small tree; strange ones are of neither table now and then."""
    place = random.choice([*PLACES, "/a/b/a/b", "/b/b/b/b/b"])
    column = random.choice(exchange.first_copy().columns)
    answers = [*exchange.first_copy().told(place, column), *exchange.second_copy().told(place, column)]
    if strange:
        answers += ["z", None]
    return (Place.read(place) if random.random() < 0.3 else place, column, random.choice(answers))


def some_moments(exchange, random, strange):
    return [[some_hearing(exchange, random, strange) for _ in range(random.randint(0, 2))] for _ in range(random.randint(0, 4))]


def small_ones(seed, many):
    for columns, at in (("r", 0), ("rw", 1), ("rwz", 2)):
        for exchange in few_steps(seed + at, many, 5, columns, 5):
            if len(exchange) and not has_ring(exchange):
                yield exchange


def has_ring(exchange):
    try:
        Hearings(exchange)
    except Ringed:
        return True
    return False


def shapes(exchange, thing, moments):
    """Whether a value is of one of the two forms and shows a contradiction, told by the words of the document alone."""
    if type(thing) is not tuple or len(thing) not in (2, 5) or not all(type(part) is int for part in thing[:4]):
        return False
    first, second = exchange.first_copy(), exchange.second_copy()

    def spot(moment, index):
        return 0 <= moment < len(moments) and 0 <= index < len(moments[moment])

    def tells(moment, index):
        place, column, answer = moments[moment][index]
        pair = first.told(place, column) + second.told(place, column)
        return None if answer not in pair else ("same" if pair[0] == pair[1] else answer == pair[1])

    def step(moment, index):
        place, column, _ = moments[moment][index]
        nearest = place if exchange.kind(place, column) else exchange.above(place, column)
        return exchange.number_of(nearest, column)

    if len(thing) == 2:
        return spot(*thing) and tells(*thing) is None
    moment, index, later, other, way = thing
    if type(way) is not tuple or not way or not all(type(number) is int for number in way):
        return False
    if not spot(moment, index) or not spot(later, other) or moment > later:
        return False
    if tells(moment, index) is not True or tells(later, other) is not False:
        return False
    pairs = {sentence[:2] for sentence in exchange.sentences}
    return way[0] == step(later, other) and way[-1] == step(moment, index) and all(pair in pairs for pair in zip(way, way[1:]))


class Hearing(Case):
    def test_the_example(self):
        heard = Hearings(chain())
        self.same(heard.hear(("/p/q/r", "r", "2"), ("/p", "r", "1")), None)
        self.same([heard.surely_done(0), heard.surely_left(0)], [(1, 2, 3), (0,)])
        self.same([contradiction(chain(), ROWS), contradiction(chain(), [[("/p", "r", "7")]])], [(0, 0, 1, 0, (1, 0)), (0, 0)])

    def test_rows_and_len(self):
        heard = Hearings(exchange=chain())
        self.same([heard.rows, len(heard)], [(), 0])
        heard.hear((Place("p"), "r", "1"), ("/z", "r", None))
        heard.hear()
        heard.hear((Place("p", "q", "r"), "r", "3"))
        self.same([heard.rows, len(heard)], [((("/p", "r", "1"), ("/z", "r", None)), (), (("/p/q/r", "r", "3"),)), 3])
        with self.assertRaises(AttributeError):
            heard.rows = ()

    def test_ringed(self):
        for exchange in (ringed(), forty_with_a_ring()):
            with self.assertRaises(Ringed) as caught:
                Hearings(exchange)
            self.assertIs(is_ring(exchange, caught.exception.ring), True)

    def test_the_first_index_that_is_no_hearing(self):
        good, bad = ("/p", "r", "1"), ("/p", "r", "zzz")
        for value in NO_HEARINGS:
            heard = Hearings(chain())
            heard.hear(good)
            self.refused(BadHearings, {"at": 0}, heard.hear, value)
            self.refused(BadHearings, {"at": 2}, heard.hear, good, good, value, None)
            # Ahead of a contradiction.
            self.refused(BadHearings, {"at": 1}, heard.hear, bad, value)
            self.same(heard.rows, ((good,),))

    def test_a_refused_call_changes_nothing(self):
        heard = Hearings(chain())
        heard.hear(("/p", "r", None))
        before = [heard.rows, heard.surely_done(0), heard.surely_left(0)]
        for rows, value in [([("/p/q", "r", "1")], (0, 0, 1, 0, (1, 0))), ([("/p/q", "r", "2"), ("/p", "r", "7")], (1, 1)), ([("/z", "r", "1")], (1, 0))]:
            self.refused(Contradiction, {"value": value}, heard.hear, *rows)
            self.refused(BadHearings, {"at": len(rows)}, heard.hear, *rows, None)
            self.same([heard.rows, heard.surely_done(0), heard.surely_left(0)], before)
        heard.hear(("/p/q", "r", "2"), ("/p", "r", None))
        self.same(len(heard), 2)

    def test_moments_that_are_none(self):
        heard = Hearings(chain())
        for call in (heard.surely_done, heard.surely_left):
            for value in [0, 1, -1, True, False, None]:
                self.refused(BadHearings, {"at": value}, call, value)
        heard.hear()
        heard.hear()
        for call in (heard.surely_done, heard.surely_left):
            for value in [value for value in values(chain()) if not (type(value) is int and value in (0, 1))] + [2, -2]:
                with self.assertRaises(BadHearings) as caught:
                    call(value)
                self.assertIs(caught.exception.at, value)
            self.same([call(0), call(moment=1)], [(), ()])

    def test_later_and_earlier_moments(self):
        heard = Hearings(chain())
        heard.hear(("/p/q", "r", "1"))
        heard.hear(("/p/q", "r", "2"))
        heard.hear(("/p/q/r/s", "r", "3"))
        self.same([heard.surely_done(moment) for moment in range(3)], [(), (1,), (1,)])
        self.same([heard.surely_left(moment) for moment in range(3)], [(0, 1, 2, 3), (2, 3), (2, 3)])
        heard.hear(("/p", "r", None))
        heard.hear(("/p/q/r", "r", "2"))
        self.same([heard.surely_done(moment) for moment in range(5)], [(), (1,), (1,), (0, 1), (0, 1, 2, 3)])
        self.same([heard.surely_left(moment) for moment in range(5)], [(0, 1, 2, 3), (2, 3), (2, 3), (), ()])

    def test_the_exchange_is_not_changed(self):
        exchange = chain()
        heard = Hearings(exchange)
        heard.hear(("/p", "r", "1"))
        contradiction(exchange, ROWS)
        self.assertEqual(exchange, chain())
        self.same(ROWS, [[("/p", "r", None)], [("/p/q", "r", "1")]])


class Told(Case):
    def test_kept_cells_and_equal_answers_tell_nothing(self):
        heard = Hearings(kept())
        heard.hear(("/a", "w", "k"), ("/a/x", "w", "k"), ("/b/c", "r", "3"), ("/b/c/d", "r", "3"), ("/", "r", None), ("/z", "w", None), ("/b", "w", None))
        self.same([heard.surely_done(0), heard.surely_left(0)], [(), ()])
        for row in [("/a", "w", None), ("/a/x", "w", "7"), ("/b/c", "r", "2"), ("/", "r", "1"), ("/z", "w", "k"), ("/b", "w", "2"), ("/d", "w", "k")]:
            self.refused(Contradiction, {"value": (1, 0)}, heard.hear, row)

    def test_places_below_the_cells_and_beside_them(self):
        for place in ("/a", "/a/x", "/a/x/y/z/0/1/2/3"):
            heard = Hearings(kept())
            heard.hear((place, "r", "1"))
            heard.hear((place, "r", "9"))
            self.same([heard.surely_left(0), heard.surely_done(0), heard.surely_done(1)], [(0,), (), (0,)])
        heard = Hearings(kept())
        heard.hear(("/d/e", "w", None), ("/b/x", "r", "3"))
        self.same([heard.surely_left(0), heard.surely_done(0)], [(3,), (1,)])

    def test_against_all_strict_standings(self):
        random = Random(300)
        clear = done_seen = 0
        for exchange in small_ones(301, 90):
            for strange in (False, False, True):
                moments = some_moments(exchange, random, strange)
                levels = fits(exchange, moments)
                found = contradiction(exchange, moments)
                if levels and not all(levels):
                    self.assertIs(shapes(exchange, found, moments), True)
                    self.assertIs(shows_contradiction(exchange, moments, found), True)
                    continue
                self.assertIsNone(found)
                heard = Hearings(exchange)
                for row in moments:
                    heard.hear(*row)
                for moment, level in enumerate(levels):
                    done = [number for number in range(len(exchange)) if all(number in row for row in level)]
                    left = [number for number in range(len(exchange)) if not any(number in row for row in level)]
                    self.same([heard.surely_done(moment), heard.surely_left(moment)], [tuple(done), tuple(left)])
                    clear += 1
                    done_seen += len(done) > 0
        self.assertGreater(clear, 200)
        self.assertGreater(done_seen, 80)

    def test_what_is_heard_on_the_way_of_an_order_is_no_contradiction(self):
        random = Random(302)
        for exchange in small_ones(303, 60):
            heard = Hearings(exchange)
            standings = sorted(random.sample(strict_sets(exchange), 1) + [(), tuple(range(len(exchange)))], key=len)
            for done in standings:
                table = table_at(exchange, done)
                heard.hear(*[(place, column, table.told(place, column)[0]) for place in random.sample(PLACES, 4) for column in table.columns])
            for moment, done in enumerate(standings):
                self.assertTrue(set(heard.surely_done(moment)) <= set(done))
                self.assertFalse(set(heard.surely_left(moment)) & set(done))


class Contradictions(Case):
    def test_the_first_hearing_that_cannot_be_ahead_of_all_pairs(self):
        rows = [*ROWS, [("/p/q/r", "r", "3"), ("/p/q/r", "r", "7")], [("/z", "r", "1")]]
        self.same(contradiction(chain(), rows), (2, 1))
        self.same(contradiction(chain(), rows[:2]), (0, 0, 1, 0, (1, 0)))
        self.same(contradiction(chain(), rows[2:]), (0, 1))
        self.same(contradiction(chain(), [[], *rows[3:]]), (1, 0))

    def test_both_in_one_moment(self):
        found = contradiction(chain(), [[("/p/q/r/s", "r", "3"), ("/p/q/r", "r", "2")]])
        self.same(found, (0, 1, 0, 0, (3, 2)))
        self.same(contradiction(chain(), [[("/p", "r", "1"), ("/p/x", "r", None)]]), (0, 1, 0, 0, (0,)))
        self.same(contradiction(chain(), [[("/p", "r", "1"), ("/p", "r", None)]]), (0, 1, 0, 0, (0,)))

    def test_in_the_other_order_of_moments_there_is_none(self):
        self.same(contradiction(chain(), ROWS[::-1]), None)
        self.same(contradiction(chain(), [[("/p/q/r/s", "r", "3")], [("/p/q/r", "r", "2")]]), None)

    def test_long_chains(self):
        exchange = of_kinds({"/a": "old", "/a/b": "old", "/a/b/c": "old", "/a/b/c/d": "old"})
        rows = [[("/a/b/c/d", "r", None)], [("/a", "r", "a0x1")]]
        self.same(contradiction(exchange, rows), (0, 0, 1, 0, (0, 1, 2, 3)))

    def test_no_moments_and_empty_ones(self):
        for rows in ([], (), [[]], ((), [], ()), [[], [("/p", "r", "1")], ()]):
            self.same(contradiction(chain(), rows), None)
            self.same(contradiction(rows=rows, exchange=chain()), None)
        self.same(contradiction(plain({}, {}), [[("/", "r", None)]]), None)
        self.same(contradiction(plain({}, {}), [[("/", "r", "x")]]), (0, 0))

    def test_ringed_ahead_of_all(self):
        for rows in (None, [], [None], [[("/p", "r", "f0")]], [["x"]]):
            for call, more in ((contradiction, ()), (shows_contradiction, ((0, 0),)), (shows_contradiction, (None,))):
                with self.assertRaises(Ringed) as caught:
                    call(ringed(), rows, *more)
                self.assertIs(is_ring(ringed(), caught.exception.ring), True)

    def test_rows_that_are_no_list_or_tuple(self):
        for value in [value for value in values(chain()) if not isinstance(value, (list, tuple))]:
            self.refused(BadHearings, {"at": None}, contradiction, chain(), value)
            self.refused(BadHearings, {"at": None}, shows_contradiction, chain(), value, (0, 0))

    def test_the_first_moment_that_is_none(self):
        good = [("/p", "r", "7")]
        for value in [None, True, 0, "", "ab", {}, {0: good}, Place("p"), chain(), *[[value] for value in NO_HEARINGS], ("/p", "r", "1"), [*good, ["/p", "r", "1"]]]:
            self.refused(BadHearings, {"at": 0}, contradiction, chain(), [value])
            self.refused(BadHearings, {"at": 2}, contradiction, chain(), (good, [], value, None))
            self.refused(BadHearings, {"at": 1}, shows_contradiction, chain(), [good, value], (0, 0))

    def test_rows_as_lists_and_tuples_with_places_of_both_kinds(self):
        for rows in ([((Place("p"), "r", None),), (("/p/q", "r", "1"),)], tuple(tuple(row) for row in ROWS)):
            self.same(contradiction(chain(), rows), (0, 0, 1, 0, (1, 0)))

    def test_the_same_each_time(self):
        random = Random(304)
        for exchange in small_ones(305, 30):
            moments = some_moments(exchange, random, False)
            self.same(contradiction(exchange, moments), contradiction(exchange, moments))


class Shown(Case):
    def wrong(self, exchange, rows, thing):
        self.assertIs(shows_contradiction(exchange, rows, thing), False, f"{thing!r}")

    def pairs(self):
        """Exchanges, moments and what is told of them."""
        yield chain(), ROWS, (0, 0, 1, 0, (1, 0))
        rows = [[("/z", "r", None), ("/p/q/r", "r", "2")], [], [("/p/q/r/s", "r", "4"), ("/p/q", "r", "1")]]
        yield chain(), rows, (0, 1, 2, 1, (1, 2))
        exchange = of_kinds({"/a": "old", "/a/b": "old", "/a/b/c": "old", "/z": "new"})
        yield exchange, [[("/a/b/c", "r", None)], [("/z", "r", None)], [("/a", "r", "a0x1")]], (0, 0, 2, 0, (0, 1, 2))

    def test_what_contradiction_tells(self):
        for exchange, rows, found in self.pairs():
            self.same(contradiction(exchange, rows), found)
            self.assertIs(shows_contradiction(exchange, rows, found), True)
            self.assertIs(shows_contradiction(thing=found, rows=rows, exchange=exchange), True)

    def test_one_thing_otherwise(self):
        for exchange, rows, found in self.pairs():
            moment, index, later, other, way = found
            numbers = [(at, number) for at in range(4) for number in (-3, -2, -1, 0, 1, 2, 3) if number != found[at]]
            others = [(*found[:at], number, *found[at + 1:]) for at, number in numbers]
            others += [(*found[:4], (*way[:at], number, *way[at + 1:])) for at in range(len(way)) for number in range(-1, 5) if number != way[at]]
            others += [(*found[:4], changed) for changed in (way[::-1], way[1:], way[:-1], (), way + way[-1:], way[:1] + way, (*way, 3), (0, *way), way + way)]
            others += [(later, other, moment, index, way), (later, other, moment, index, way[::-1])]
            for thing in others:
                self.assertIs(shows_contradiction(exchange, rows, thing), shapes(exchange, thing, rows), f"{thing!r}")
                self.wrong(exchange, rows, thing)
            for at in range(4):
                for value in (None, str(found[at]), (found[at],), bool(found[at])):
                    self.wrong(exchange, rows, (*found[:at], value, *found[at + 1:]))
            for thing in (list(found), (*found[:4], list(way)), found[:4], found[:3], (*found, 0), (*found[:4], *way), (*found[:4], None), found[:2], (found,)):
                self.wrong(exchange, rows, thing)

    def test_bools_in_the_chain(self):
        exchange, rows, found = next(self.pairs())
        self.wrong(exchange, rows, (*found[:4], (True, 0)))
        self.wrong(exchange, rows, (*found[:4], (1, False)))

    def test_each_hearing_that_cannot_be(self):
        rows = [[("/p", "r", "1"), ("/p", "r", "7")], [("/z", "r", "1"), ("/p/q", "r", "2"), ("/p/q", "r", None)], ROWS[0], ROWS[1]]
        self.same(contradiction(chain(), rows), (0, 1))
        for moment, row in enumerate(rows):
            for index, hearing in enumerate(row):
                self.assertIs(shows_contradiction(chain(), rows, (moment, index)), impossible(chain(), hearing))
                self.wrong(chain(), rows, [moment, index])
        # Two hearings show one, too, though others cannot be by themselves.
        self.assertIs(shows_contradiction(chain(), rows, (2, 0, 3, 0, (1, 0))), True)
        self.assertIs(shows_contradiction(chain(), rows, (1, 1, 3, 0, (1,))), True)
        for thing in [(0, True), (False, 1), (-4, 1), (0, -1), (0, 2), (4, 0), (0,), (0, 1, 0), (), ((0, 1),)]:
            self.wrong(chain(), rows, thing)

    def test_hearings_that_tell_nothing(self):
        rows = [[("/a", "w", "k"), ("/b/c", "r", "3"), ("/", "r", None)]]
        for moment in range(2):
            for index in range(4):
                self.wrong(kept(), rows, (moment, index))
                for other in range(4):
                    for way in ((), (0,), (1,), (2,), (3,)):
                        self.wrong(kept(), rows, (0, index, moment, other, way))

    def test_against_the_words_of_the_document(self):
        random = Random(306)
        shown = 0
        for exchange in small_ones(307, 40):
            rows = some_moments(exchange, random, True)
            for _ in range(40):
                way = tuple(random.choice(range(len(exchange))) for _ in range(random.randint(1, 2)))
                thing = (*(random.randint(0, 2) for _ in range(4)), way) if random.random() < 0.7 else (random.randint(0, 3), random.randint(0, 2))
                wanted = shapes(exchange, thing, rows)
                self.assertIs(shows_contradiction(exchange, rows, thing), wanted)
                shown += wanted
        self.assertGreater(shown, 30)

    def test_without_a_contradiction(self):
        rows = ROWS[::-1]
        for moment in range(3):
            for index in range(2):
                self.wrong(chain(), rows, (moment, index))
                for way in ((0,), (1,), (1, 0), (0, 1)):
                    self.wrong(chain(), rows, (0, 0, moment, index, way))
                    self.wrong(chain(), rows, (1, 0, moment, index, way))

    def test_values_of_all_kinds(self):
        for exchange, rows, _ in self.pairs():
            for value in values(exchange):
                self.wrong(exchange, rows, value)
                self.wrong(exchange, rows, (value, value))
                self.wrong(exchange, rows, (0, 0, 1, 0, value))
            self.wrong(exchange, rows, Plan(exchange))
        self.assertFalse(same((0, 0), [0, 0]))


if __name__ == "__main__":
    unittest.main()
