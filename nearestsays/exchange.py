"""Exchanges: the steps from one table to another one, and the sentences that order them."""

from nearestsays.errors import NoStep, TooMany
from nearestsays.places import Place, upward
from nearestsays.steps import part_step, whole_step
from nearestsays.tables import Table, cells_at, check_like, spot_of

UPPER_AHEAD = ("old/old", "new/old", "turned/old")
LOWER_AHEAD = ("old/new", "new/new", "turned/new")


def kind_of(before, after, column):
    """The kind of a cell by the two rows at its place, or None if neither has it."""
    if column not in before:
        return "new" if column in after else None
    if column not in after:
        return "old"
    return "kept" if before[column] == after[column] else "turned"


def kinds_of(first, second, places):
    """The kinds of all cells by (place, column), ascending."""
    kinds = {}
    for place in places:
        before = cells_at(first, place)
        after = cells_at(second, place)
        for column in first.columns:
            kind = kind_of(before, after, column)
            if kind is not None:
                kinds[(place, column)] = kind
    return kinds


def changed_columns(first, second, place):
    """The ascending list of the columns in which the rows at the place differ."""
    before = cells_at(first, place)
    after = cells_at(second, place)
    return [column for column in first.columns if before.get(column) != after.get(column)]


def divided_places(first, second, divided):
    """The ascending tuple of the texts of the places that are divided."""
    texts = [Place.of(value).text for value in divided]
    for text in texts:
        if not changed_columns(first, second, text):
            raise NoStep(text)
    return tuple(sorted(set(texts)))


def cell_only(cells, column):
    """The cells without those of the other columns."""
    return {name: cells[name] for name in cells if name == column}


def steps_at(first, second, place, is_divided):
    """The list of the steps at a place."""
    before = cells_at(first, place)
    after = cells_at(second, place)
    columns = changed_columns(first, second, place)
    if not columns:
        return []
    if not is_divided:
        return [whole_step(place, tuple(columns), before, after)]
    return [
        part_step(place, column, cell_only(before, column), cell_only(after, column))
        for column in columns
    ]


def cell_above(kinds, place, column):
    """The nearest place strictly above with a cell in the column, or None."""
    for spot in upward(place)[1:]:
        if (spot, column) in kinds:
            return spot
    return None


def sentence_of(kinds, numbers, place, column):
    """The sentence about a cell and the cell above it, or None."""
    upper = cell_above(kinds, place, column)
    if upper is None:
        return None
    word = f"{kinds[(upper, column)]}/{kinds[(place, column)]}"
    if word in UPPER_AHEAD:
        return (numbers[(upper, column)], numbers[(place, column)], column, word)
    if word in LOWER_AHEAD:
        return (numbers[(place, column)], numbers[(upper, column)], column, word)
    return None


class Exchange:
    """The exchange from one table to another one. It never changes."""

    def __init__(self, first, second, *, divided=()):
        check_like(first, second)
        places = tuple(sorted(set(first.places + second.places)))
        if len(places) > Table.MOST:
            raise TooMany(Table.MOST)
        self.columns = first.columns
        self.divided = divided_places(first, second, divided)
        self._places = places
        self._first = first.copy()
        self._second = second.copy()
        self._kinds = kinds_of(first, second, places)
        self.steps = tuple([
            step
            for place in places
            for step in steps_at(first, second, place, place in self.divided)
        ])
        self._numbers = {
            (step.place, column): number
            for number, step in enumerate(self.steps)
            for column in step.columns
        }
        found = [sentence_of(self._kinds, self._numbers, place, column) for place, column in self._kinds]
        self.sentences = tuple([sentence for sentence in found if sentence is not None])

    # A property, because `places` is one of a table, too.
    @property
    def places(self):
        """The ascending tuple of all places with a row in one of the tables."""
        return self._places

    def first_copy(self):
        """A new copy of the first table."""
        return self._first.copy()

    def second_copy(self):
        """A new copy of the second table."""
        return self._second.copy()

    def __len__(self):
        return len(self.steps)

    def kind(self, place, column):
        """The kind of the cell, or None if neither table has it."""
        return self._kinds.get(spot_of(self.columns, place, column))

    def above(self, place, column):
        """The nearest place strictly above with a cell of either table, or None."""
        text, _ = spot_of(self.columns, place, column)
        return cell_above(self._kinds, text, column)

    def number_of(self, place, column):
        """The number of the step that changes the cell, or None."""
        return self._numbers.get(spot_of(self.columns, place, column))

    def back(self):
        """The exchange from the second table to the first."""
        return Exchange(self._second, self._first, divided=self.divided)

    def divide(self, *places):
        """The exchange in which these places are divided, too."""
        return Exchange(self._first, self._second, divided=self.divided + places)

    def __eq__(self, other):
        return (
            isinstance(other, Exchange)
            and self._first == other._first
            and self._second == other._second
            and self.divided == other.divided
        )


def unlike(exchange):
    """An exchange with cells of the same kinds in which no two cells say the same but the kept ones."""
    first, second = {}, {}
    count = 0
    for place in exchange.places:
        for column in exchange.columns:
            kind = exchange.kind(place, column)
            if kind in ("old", "turned", "kept"):
                first.setdefault(place, {})[column] = f"a{count}"
            if kind in ("new", "turned"):
                second.setdefault(place, {})[column] = f"b{count}"
            if kind == "kept":
                second.setdefault(place, {})[column] = f"a{count}"
            count += 1
    return Exchange(
        Table(exchange.columns, first), Table(exchange.columns, second), divided=exchange.divided
    )
