"""Plans: steps of an exchange in the order in which they are done."""

from nearestsays.errors import BadPlan
from nearestsays.exchange import Exchange
from nearestsays.places import is_integer
from nearestsays.tables import cells_at


def is_number(exchange, value):
    """Whether any value is the number of a step of the exchange."""
    return is_integer(value) and 0 <= value < len(exchange)


def wrong_at(exchange, numbers):
    """The first index whose item is not the number of a step or stands there before, or None."""
    for at, number in enumerate(numbers):
        if not is_number(exchange, number) or number in numbers[:at]:
            return at
    return None


def cell_lines(exchange):
    """A line (place, column, upper, number, says, pair) for each cell of either table, ascending.

    upper is the index of the line of the cell above, number that of the step
    that changes the cell, or None; says is what the cell itself says in the two
    tables, None where it does not stand; pair is what its place is told there.
    """
    first = exchange.first_copy()
    second = exchange.second_copy()
    lines = []
    indexes = {}
    for place in exchange.places:
        before = cells_at(first, place)
        after = cells_at(second, place)
        for column in exchange.columns:
            if column in before or column in after:
                upper = indexes.get((exchange.above(place, column), column))
                number = exchange.number_of(place, column)
                says = (before.get(column), after.get(column))
                pair = (first.told(place, column)[0], second.told(place, column)[0])
                indexes[(place, column)] = len(lines)
                lines.append((place, column, upper, number, says, pair))
    return lines


def third_told(lines, done):
    """The first (place, column, heard) that is told none of its two answers when these steps are done, or None."""
    # The first place of all that is told a third answer has a cell of one of
    # the two tables in this column, so no other place is asked.
    answers = []
    for place, column, upper, number, says, pair in lines:
        heard = says[1] if number in done else says[0]
        if heard is None and upper is not None:
            heard = answers[upper]
        if heard not in pair:
            return (place, column, heard)
        answers.append(heard)
    return None


def first_third(exchange, numbers):
    """The least moment of a plan with a third answer, and the place, the column and the answer; None if it is right."""
    lines = cell_lines(exchange)
    for moment in range(len(numbers) + 1):
        found = third_told(lines, numbers[:moment])
        if found is not None:
            return (moment, *found)
    return None


def moments_of(numbers):
    """By the number of each step of a plan its index there."""
    return {number: at for at, number in enumerate(numbers)}


def is_kept(sentence, moments):
    """Whether a sentence is kept where the steps are done at these moments, by their numbers."""
    ahead, behind = sentence[:2]
    if behind not in moments:
        return True
    return ahead in moments and moments[ahead] < moments[behind]


class Plan:
    """A plan of an exchange. It never changes."""

    def __init__(self, exchange, numbers=()):
        if not isinstance(numbers, (list, tuple)):
            raise BadPlan(None)
        at = wrong_at(exchange, numbers)
        if at is not None:
            raise BadPlan(at)
        self._exchange = exchange
        self.numbers = tuple(numbers)

    # A property, because the exchange of a live table is one, too.
    @property
    def exchange(self):
        """The exchange whose steps these are."""
        return self._exchange

    def __len__(self):
        return len(self.numbers)

    def __str__(self):
        if not self.numbers:
            return "none"
        return " ".join([str(number) for number in self.numbers])

    def head(self, k):
        """The plan of the first k steps."""
        if not is_integer(k) or not 0 <= k <= len(self.numbers):
            raise BadPlan(k)
        return Plan(self.exchange, self.numbers[:k])

    def __add__(self, other):
        return Plan(self.exchange, (*self.numbers, other))

    def begins(self, other):
        """Whether any value is a plan of an equal exchange that begins with this one."""
        if not isinstance(other, Plan) or self.exchange != other.exchange:
            return False
        return other.numbers[:len(self.numbers)] == self.numbers

    def __eq__(self, other):
        return (
            isinstance(other, Plan)
            and self.exchange == other.exchange
            and self.numbers == other.numbers
        )

    def back(self):
        """The way back: the same steps backwards in the reversed order."""
        if not self.is_whole:
            raise BadPlan(len(self.numbers))
        return Plan(self.exchange.back(), self.numbers[::-1])

    @property
    def is_whole(self):
        return len(self.numbers) == len(self.exchange)

    @property
    def is_strict(self):
        moments = moments_of(self.numbers)
        return all([is_kept(sentence, moments) for sentence in self.exchange.sentences])

    @property
    def is_right(self):
        return first_third(self.exchange, self.numbers) is None

    def table_behind(self):
        """The table that stands when all steps of the plan are done."""
        table = self.exchange.first_copy()
        for number in self.numbers:
            step = self.exchange.steps[number]
            table = step.on(table)
        return table

    def tables(self):
        """Yields the tables at the moments from 0 on, each a table of its own."""
        table = self.exchange.first_copy()
        yield table.copy()
        for number in self.numbers:
            step = self.exchange.steps[number]
            table = step.on(table)
            yield table.copy()

    def left(self):
        """The exchange from the table that stands behind the plan to the second table."""
        table = self.table_behind()
        second = self.exchange.second_copy()
        divided = [
            place
            for place in self.exchange.divided
            if cells_at(table, place) != cells_at(second, place)
        ]
        return Exchange(table, second, divided=divided)
