"""Plans: steps of an exchange in the order in which they are done."""

from nearestsays.errors import BadPlan
from nearestsays.exchange import Exchange
from nearestsays.places import is_integer
from nearestsays.tables import cells_at


def two_answers(exchange):
    """What the two tables tell, in a dict by (place, column), ascending, for each cell of either."""
    first = exchange.first_copy()
    second = exchange.second_copy()
    return {
        (place, column): (first.told(place, column)[0], second.told(place, column)[0])
        for place in exchange.places
        for column in exchange.columns
        if exchange.kind(place, column) is not None
    }


def third_told(answers, table):
    """The first (place, column, heard) that the table tells none of its two answers, or None."""
    # The first place of all that is told a third answer has a cell of one of
    # the two tables in this column, so no other place is asked.
    for (place, column), pair in answers.items():
        heard = table.told(place, column)[0]
        if heard not in pair:
            return (place, column, heard)
    return None


def is_kept(sentence, moments):
    """Whether a sentence is kept where the steps are done at these moments, by their numbers."""
    ahead, behind = sentence[:2]
    if behind not in moments:
        return True
    return ahead in moments and moments[ahead] < moments[behind]


class Plan:
    """A plan of an exchange. It never changes."""

    def __init__(self, exchange, numbers=()):
        if not isinstance(numbers, (list, tuple)):
            raise BadPlan(None)
        for at, number in enumerate(numbers):
            if not is_integer(number) or not 0 <= number < len(exchange) or number in numbers[:at]:
                raise BadPlan(at)
        self.exchange = exchange
        self.numbers = tuple(numbers)

    def __len__(self):
        return len(self.numbers)

    def __str__(self):
        if not self.numbers:
            return "none"
        return " ".join([str(number) for number in self.numbers])

    def head(self, k):
        """The plan of the first k steps."""
        if not is_integer(k) or not 0 <= k <= len(self.numbers):
            raise BadPlan(k)
        return Plan(self.exchange, self.numbers[:k])

    def __add__(self, other):
        return Plan(self.exchange, (*self.numbers, other))

    def begins(self, other):
        """Whether any value is a plan of an equal exchange that begins with this one."""
        if not isinstance(other, Plan) or self.exchange != other.exchange:
            return False
        return other.numbers[:len(self.numbers)] == self.numbers

    def __eq__(self, other):
        return (
            isinstance(other, Plan)
            and self.exchange == other.exchange
            and self.numbers == other.numbers
        )

    def back(self):
        """The way back: the same steps backwards in the reversed order."""
        if not self.is_whole:
            raise BadPlan(len(self.numbers))
        return Plan(self.exchange.back(), self.numbers[::-1])

    @property
    def is_whole(self):
        return len(self.numbers) == len(self.exchange)

    @property
    def is_strict(self):
        moments = {number: at for at, number in enumerate(self.numbers)}
        return all([is_kept(sentence, moments) for sentence in self.exchange.sentences])

    @property
    def is_right(self):
        answers = two_answers(self.exchange)
        return all([third_told(answers, table) is None for table in self.tables()])

    def table_behind(self):
        """The table that stands when all steps of the plan are done."""
        table = self.exchange.first_copy()
        for number in self.numbers:
            step = self.exchange.steps[number]
            table = step.on(table)
        return table

    def tables(self):
        """Yields the tables at the moments from 0 on, each a table of its own."""
        table = self.exchange.first_copy()
        yield table.copy()
        for number in self.numbers:
            step = self.exchange.steps[number]
            table = step.on(table)
            yield table.copy()

    def left(self):
        """The exchange from the table that stands behind the plan to the second table."""
        table = self.table_behind()
        second = self.exchange.second_copy()
        divided = [
            place
            for place in self.exchange.divided
            if cells_at(table, place) != cells_at(second, place)
        ]
        return Exchange(table, second, divided=divided)
