"""Small exchanges by the dozen, and what holds of them, found by ways other than the program's."""

from itertools import combinations, permutations, product
from random import Random

from helpers import speaker_of, told_by
from nearestsays.exchange import Exchange
from nearestsays.plans import Plan
from nearestsays.tables import Table

PLACES = ["/" + "/".join(names) for size in range(4) for names in product("ab", repeat=size)]


def some_exchange(random, columns, most):
    """An exchange with few steps over the places of a small tree."""
    spots = random.sample(PLACES, random.randint(1, most))
    tables = []
    for _ in range(2):
        rows = {}
        for place in spots:
            cells = {column: random.choice("xy") for column in columns if random.random() < 0.6}
            if cells:
                rows[place] = cells
        tables.append(rows)
    first, second = (Table(columns, rows) for rows in tables)
    differing = [place for place in spots if tables[0].get(place) != tables[1].get(place)]
    divided = [place for place in differing if random.random() < 0.3]
    return Exchange(first, second, divided=divided)


def some_exchanges(seed, many, columns=("r", "w"), most=4):
    random = Random(seed)
    return [some_exchange(random, list(columns), most) for _ in range(many)]


def some_plans(exchange, random):
    """A few plans, whole and in part, and a strict one that goes as far as it can."""
    numbers = list(range(len(exchange)))
    for _ in range(4):
        random.shuffle(numbers)
        yield Plan(exchange, numbers[:random.randint(0, len(numbers))])
        yield Plan(exchange, numbers)
    numbers = strict_numbers(exchange, random)
    yield Plan(exchange, numbers[:random.randint(0, len(numbers))])
    yield Plan(exchange, numbers)


def strict_numbers(exchange, random):
    """The numbers of a strict plan behind which no step is free."""
    left, done = list(range(len(exchange))), []
    while True:
        free = [n for n in left if all(s[0] in done for s in exchange.sentences if s[1] == n)]
        if not free:
            return done
        done.append(random.choice(free))
        left.remove(done[-1])


def rows_at(exchange, done):
    """The rows that stand when these steps are done, found cell by cell."""
    first, second = exchange.first_copy(), exchange.second_copy()
    rows = {}
    for place in exchange.places:
        for column in exchange.first_copy().columns:
            table = second if exchange.number_of(place, column) in done else first
            cells = table[place] if place in table else {}
            if column in cells:
                rows.setdefault(place, {})[column] = cells[column]
    return rows


def third_places(exchange, done):
    """All (place, column) of the small tree that are told a third answer."""
    rows = rows_at(exchange, done)
    first, second = exchange.first_copy(), exchange.second_copy()
    found = []
    for place in sorted(PLACES):
        for column in first.columns:
            allowed = (first.told(place, column)[0], second.told(place, column)[0])
            if told_by(rows, place, column) not in allowed:
                found.append((place, column))
    return found


def cells_heard(exchange, done):
    """The cells that the places of the small tree hear: their places and the tables in which they say so."""
    rows = rows_at(exchange, done)
    heard = {}
    for place, column in product(sorted(PLACES), exchange.first_copy().columns):
        spot = speaker_of(rows, place, column)
        table = "second" if exchange.number_of(spot or "/", column) in done else "first"
        if spot is not None and exchange.kind(spot, column) == "kept":
            table = "both"
        heard[(place, column)] = (spot, table) if spot else None
    return heard


def broken_at(exchange, numbers):
    """The first moment at which sentences are broken, and the lower cells of these, or None."""
    for moment in range(len(numbers) + 1):
        done = numbers[:moment]
        cells = []
        for ahead, behind, column, word in exchange.sentences:
            if behind in done and (ahead not in done or done.index(ahead) > done.index(behind)):
                lower = behind if word in ("old/old", "new/old", "turned/old") else ahead
                cells.append((exchange.steps[lower].place, column))
        if cells:
            return moment, cells
    return None


def orders_of(exchange):
    """The numbers of all orders, ascending, sought among all whole plans."""
    return [row for row in permutations(range(len(exchange))) if keeps(exchange, row)]


def keeps(exchange, row):
    """Whether a whole plan keeps all sentences."""
    return all(row.index(ahead) < row.index(behind) for ahead, behind, _, _ in exchange.sentences)


def sets_of(exchange):
    """All standings, the shorter ones first, then ascending."""
    numbers = range(len(exchange))
    return [row for size in range(len(exchange) + 1) for row in combinations(numbers, size)]


def is_closed(exchange, done):
    """Whether a standing is closed under the sentences."""
    return all(ahead in done for ahead, behind, _, _ in exchange.sentences if behind in done)


def few_steps(seed, many, most, columns=("r", "w"), spots=4):
    """Small exchanges with so many steps at most."""
    return [exchange for exchange in some_exchanges(seed, many, columns, spots) if len(exchange) <= most]


def rings_of(exchange):
    """All rings, each one from each of its sentences on, sought along all ways."""
    found = []
    ways = [(sentence,) for sentence in exchange.sentences]
    while ways:
        way = ways.pop()
        if way[-1][1] == way[0][0]:
            found.append(way)
            continue
        passed = [sentence[0] for sentence in way]
        ways += [way + (sentence,) for sentence in exchange.sentences if sentence[0] == way[-1][1] and sentence[0] not in passed]
    return found


def nested(deep, start=""):
    """The texts of places one below the other."""
    return [start + "/n" * size for size in range(1, deep + 1)]


def wide(columns, first, second, divided=()):
    """An exchange whose cells are told by the signs of the columns that have one: `{"/a": "rw"}`."""
    tables = [
        Table(list(columns), {place: {sign: f"{word}{at}" for sign in rows[place]} for at, place in enumerate(rows)})
        for word, rows in (("f", first), ("s", second))
    ]
    return Exchange(*tables, divided=divided)


def ringed():
    """Two rows that change crosswise, so that each one must be changed ahead of the other."""
    return wide("rw", {"/p": "r", "/p/q": "r"}, {"/p": "w", "/p/q": "w"})


def forty_with_a_ring():
    """Forty rows, of which the last two form a ring."""
    first = {f"/a{number}": "r" for number in range(38)}
    return wide("rw", {**first, "/p": "r", "/p/q": "r"}, {"/p": "w", "/p/q": "w"})
