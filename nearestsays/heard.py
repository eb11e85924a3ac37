"""What was heard while a strict plan that nobody knows was carried out, and what it tells."""

from nearestsays.errors import BadHearings, Contradiction
from nearestsays.orders import check_ringless
from nearestsays.places import Place, is_integer, is_name, is_place
from nearestsays.rings import reached_from, steps_ahead, steps_behind
from nearestsays.rounds import is_chain


def is_hearing(exchange, value):
    """Whether any value is a hearing: a place, a column, and an answer or None."""
    if not isinstance(value, tuple) or len(value) != 3:
        return False
    place, column, answer = value
    return is_place(place) and column in exchange.columns and (answer is None or is_name(answer))


def are_hearings(exchange, value):
    """Whether any value is a list or tuple of hearings."""
    return isinstance(value, (list, tuple)) and all([is_hearing(exchange, part) for part in value])


def check_moments(exchange, rows):
    """Refuses rings, and any value that is not a list or tuple of moments."""
    check_ringless(exchange)
    if not isinstance(rows, (list, tuple)):
        raise BadHearings(None)
    for moment, row in enumerate(rows):
        if not are_hearings(exchange, row):
            raise BadHearings(moment)


def step_of(exchange, place, column):
    """The step of the nearest cell of the column at or above the place, or None."""
    spot = place if exchange.kind(place, column) is not None else exchange.above(place, column)
    return None if spot is None else exchange.number_of(spot, column)


def told_at(exchange, rows):
    """For each moment, and there for each hearing, what it tells: (number, whether this step is done).

    The number is None where it tells nothing; None alone stands for a hearing
    that cannot be by itself.
    """
    first, second = exchange.first_copy(), exchange.second_copy()
    found = []
    for row in rows:
        facts = []
        for place, column, answer in row:
            pair = (first.told(place, column)[0], second.told(place, column)[0])
            if answer not in pair:
                facts.append(None)
            elif pair[0] == pair[1]:
                facts.append((None, False))
            else:
                facts.append((step_of(exchange, place, column), answer == pair[1]))
        found.append(facts)
    return found


def chains_from(behinds, start):
    """By each step to which sentences lead from start a shortest chain of steps, both ends included."""
    ways = {start: (start,)}
    row = [start]
    while row:
        following = []
        for number in row:
            for other in behinds[number]:
                if other not in ways:
                    ways[other] = (*ways[number], other)
                    following.append(other)
        row = following
    return ways


def spots_told(facts):
    """By each step the first (moment, index) at which it is told to be done, and the last one at which it is not."""
    done, left = {}, {}
    for moment, row in enumerate(facts):
        for index, (number, is_done) in enumerate(row):
            if number is not None and is_done:
                done.setdefault(number, (moment, index))
            elif number is not None:
                left[number] = (moment, index)
    return (done, left)


def contradiction_of(exchange, facts):
    """A contradiction of what the hearings of moments tell, or None."""
    for moment, row in enumerate(facts):
        if None in row:
            return (moment, row.index(None))
    done, left = spots_told(facts)
    behinds = steps_behind(exchange)
    for other in left:
        ways = chains_from(behinds, other)
        for number in done:
            if number in ways and done[number][0] <= left[other][0]:
                return (*done[number], *left[other], ways[number])
    return None


def contradiction(exchange, rows):
    """None if a strict whole plan fits the moments, any value; otherwise the hearings that cannot be."""
    check_moments(exchange, rows)
    return contradiction_of(exchange, told_at(exchange, rows))


def is_spot(facts, moment, index):
    """Whether these integers tell a moment and one of its hearings."""
    return 0 <= moment < len(facts) and 0 <= index < len(facts[moment])


def shows_contradiction(exchange, rows, thing):
    """Whether any value shows that no strict whole plan fits the moments."""
    check_moments(exchange, rows)
    facts = told_at(exchange, rows)
    if not isinstance(thing, tuple) or not all([is_integer(part) for part in thing[:4]]):
        return False
    if len(thing) == 2:
        return is_spot(facts, thing[0], thing[1]) and facts[thing[0]][thing[1]] is None
    if len(thing) != 5 or not is_chain(exchange, thing[4]) or not thing[4]:
        return False
    moment, index, later, other, way = thing
    if moment > later or not is_spot(facts, moment, index) or not is_spot(facts, later, other):
        return False
    return facts[moment][index] == (way[-1], True) and facts[later][other] == (way[0], False)


def closed_by(nexts, numbers):
    """The ascending tuple of these steps and all to which the lists of next ones lead."""
    found = {number: True for number in numbers}
    for number in numbers:
        found.update(reached_from(nexts, number))
    return tuple(sorted(found))


class Hearings:
    """What was heard, moment by moment, while a strict plan of the exchange was carried out."""

    def __init__(self, exchange):
        check_ringless(exchange)
        self._exchange = exchange
        self._rows = ()

    # A property, because `rows` is one of a book, too.
    @property
    def rows(self):
        """The tuple of the moments, each one a tuple of its hearings."""
        return self._rows

    def __len__(self):
        return len(self._rows)

    def hear(self, *rows):
        """Adds a moment with these hearings."""
        for at, row in enumerate(rows):
            if not is_hearing(self._exchange, row):
                raise BadHearings(at)
        moment = tuple([(Place.of(place).text, column, answer) for place, column, answer in rows])
        moments = (*self._rows, moment)
        found = contradiction(self._exchange, moments)
        if found is not None:
            raise Contradiction(found)
        self._rows = moments

    def surely_done(self, moment):
        """The steps that are done at this moment, whatever strict plan was carried out."""
        self._check_moment(moment)
        told = self._told(self._rows[:moment + 1], True)
        return closed_by(steps_ahead(self._exchange), told)

    def surely_left(self, moment):
        """The steps that are not done at this moment, whatever strict plan was carried out."""
        self._check_moment(moment)
        told = self._told(self._rows[moment:], False)
        return closed_by(steps_behind(self._exchange), told)

    def _check_moment(self, moment):
        if not is_integer(moment) or not 0 <= moment < len(self._rows):
            raise BadHearings(moment)

    def _told(self, rows, is_done):
        facts = told_at(self._exchange, rows)
        return [number for row in facts for number, side in row if number is not None and side == is_done]
