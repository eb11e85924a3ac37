"""Books: all standings to which right steps lead from the empty one, and how they can be finished."""

from nearestsays.errors import BadStanding, TooMany
from nearestsays.judge import is_same
from nearestsays.plans import cell_lines
from nearestsays.standings import is_standing

# Sets of steps are written as bits here: the bit of a step is 1 << number.


def third_sets(lines, index):
    """The ways in which the place of a line is told a third answer, as a list of pairs (asked, done).

    Both are bits: it is told one just if of the steps asked those are done that
    are among done, and the others are left.
    """
    pair = lines[index][5]
    found = []
    asked = done = 0
    while index is not None:
        upper, number, says = lines[index][2:5]
        if number is None:
            # A kept cell says the same with any steps, and hides what is above it.
            return found if says[0] in pair else [*found, (asked, done)]
        bit = 1 << number
        for answer, part in ((says[0], 0), (says[1], bit)):
            if answer is not None and answer not in pair:
                found.append((asked | bit, done | part))
        if says[0] is not None and says[1] is not None:
            return found
        asked |= bit
        done |= bit if says[1] is None else 0
        index = upper
    return found if None in pair else [*found, (asked, done)]


def third_sets_by_step(exchange):
    """For each step, by its number, the pairs (asked, done) of third answers for which it must be done."""
    lines = cell_lines(exchange)
    known = {pair: True for index in range(len(lines)) for pair in third_sets(lines, index)}
    found = [[] for _ in exchange.steps]
    for asked, done in known:
        for number in range(len(exchange)):
            if done >> number & 1:
                found[number].append((asked, done))
    return found


def is_third(sets, done):
    """Whether one of these pairs (asked, done) tells of a third answer when these steps are done."""
    for asked, wanted in sets:
        if asked & done == wanted:
            return True
    return False


def coming(sets, done):
    """The ascending tuple of the steps with each of which a right standing, as bits, stays right."""
    # What was right before can only be made wrong by a set for which the step must be done.
    return tuple([
        number
        for number, mine in enumerate(sets)
        if not done >> number & 1 and not is_third(mine, done | 1 << number)
    ])


def with_step(standing, number):
    """A standing with one step more."""
    return tuple(sorted((*standing, number)))


def comes_by_standing(exchange, most):
    """By each standing of the book its comes, in the order of the rows; None if there are more standings."""
    sets = third_sets_by_step(exchange)
    found = {}
    level = [((), 0)]
    while level:
        following = {}
        for standing, done in level:
            found[standing] = coming(sets, done)
            for number in found[standing]:
                more = done | 1 << number
                if more not in following:
                    following[more] = with_step(standing, number)
            if len(found) + len(following) > most:
                return None
        level = sorted([(following[done], done) for done in following])
    return found


def book_rows(exchange):
    """The rows of the book of an exchange; None if there are more than a book has."""
    comes = comes_by_standing(exchange, Book.MOST)
    if comes is None:
        return None
    ways = {}
    for standing in list(comes)[::-1]:
        on = sum([ways[with_step(standing, number)] for number in comes[standing]])
        ways[standing] = 1 if len(standing) == len(exchange) else on
    return tuple([(standing, comes[standing], ways[standing]) for standing in comes])


class Book:
    """The standings to which steps lead from the empty one, each standing on the way being right."""

    MOST = 2000

    def __init__(self, exchange):
        rows = book_rows(exchange)
        if rows is None:
            raise TooMany(self.MOST)
        self._exchange = exchange
        self._rows = rows
        self._ways = {standing: ways for standing, _, ways in rows}
        self._leads = {
            standing: [number for number in comes if self._ways[with_step(standing, number)]]
            for standing, comes, _ in rows
        }

    # Properties, because `exchange` and `rows` are such of other classes, too.
    @property
    def exchange(self):
        """The exchange whose standings these are."""
        return self._exchange

    @property
    def rows(self):
        """The tuple of the rows (standing, comes, orders), by the length of the standing, then ascending."""
        return self._rows

    @property
    def total(self):
        """In how many ways all steps can be done, each standing on the way being right."""
        return self._ways[()]

    def __len__(self):
        return len(self._rows)

    def __contains__(self, x):
        return is_standing(self._exchange, x) and x in self._ways

    def is_stuck(self, standing):
        """Whether no steps lead from this standing of the book to the whole one."""
        if standing not in self:
            raise BadStanding(standing)
        return self._ways[standing] == 0

    def walks(self):
        """Yields all right whole plans as tuples of numbers, ascending."""
        row = None if self.is_stuck(()) else self._least_walk([])
        while row is not None:
            yield tuple(row)
            row = self._walk_behind(row)

    def _least_walk(self, head):
        row = list(head)
        while len(row) < len(self._exchange):
            row.append(self._leads[tuple(sorted(row))][0])
        return row

    def _walk_behind(self, row):
        for cut in range(len(row) - 1, -1, -1):
            head = row[:cut]
            later = [number for number in self._leads[tuple(sorted(head))] if number > row[cut]]
            if later:
                return self._least_walk(head + later[:1])
        return None

    def __eq__(self, other):
        return isinstance(other, Book) and self._exchange == other._exchange


def is_book(exchange, thing):
    """Whether any value is the rows of the book of an exchange."""
    rows = book_rows(exchange)
    return rows is not None and is_same(thing, rows)
