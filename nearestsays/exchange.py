"""Exchanges: the steps from one table to another one, and the sentences that order them."""

from nearestsays.errors import NoStep, TooMany
from nearestsays.places import text_of, upward
from nearestsays.steps import part_step, whole_step
from nearestsays.tables import Table, check_like, rows_of, spot_of, table_of

UPPER_AHEAD = ("old/old", "new/old", "turned/old")
LOWER_AHEAD = ("old/new", "new/new", "turned/new")


def divided_places(first, second, divided):
    """The ascending tuple of the texts of the places that are divided; first and second are the rows."""
    texts = [text_of(value) for value in divided]
    for text in texts:
        if first.get(text) == second.get(text):
            raise NoStep(text)
    return tuple(sorted(set(texts)))


def kinds_at(columns, before, after):
    """The kinds of the cells at a place by their columns, in the order of these."""
    kinds = {}
    for column in columns:
        old, new = before.get(column), after.get(column)
        if old is None:
            if new is not None:
                kinds[column] = "new"
        elif new is None:
            kinds[column] = "old"
        else:
            kinds[column] = "kept" if old == new else "turned"
    return kinds


def cell_only(cells, column):
    """The cells without those of the other columns."""
    return {column: cells[column]} if column in cells else {}


def steps_at(place, columns, before, after, is_divided):
    """The list of the steps at a place whose rows differ in these columns."""
    if not is_divided:
        return [whole_step(place, columns, before, after)]
    return [
        part_step(place, column, cell_only(before, column), cell_only(after, column))
        for column in columns
    ]


def numbers_by_place(steps):
    """By each place with steps a dict from the columns to the number of the step that changes the cell."""
    found = {}
    for number, step in enumerate(steps):
        numbers = {column: number for column in step.columns}
        found[step.place] = {**found[step.place], **numbers} if step.place in found else numbers
    return found


def cell_above(kinds, above, column):
    """The nearest of these places, told with the farthest first, that has a cell in the column, or None."""
    for place in above[::-1]:
        if column in kinds[place]:
            return place
    return None


def sentences_at(kinds, numbers, above, place):
    """The sentences whose lower cell is at the place; above are the places above it, the farthest first."""
    found = []
    for column, kind in kinds[place].items():
        # Of what is turned or kept no sentence tells as the lower cell.
        upper = cell_above(kinds, above, column) if kind in ("old", "new") else None
        if upper is not None:
            word = f"{kinds[upper][column]}/{kind}"
            if word in UPPER_AHEAD:
                found.append((numbers[upper][column], numbers[place][column], column, word))
            if word in LOWER_AHEAD:
                found.append((numbers[place][column], numbers[upper][column], column, word))
    return found


def is_above(place, other):
    """Whether the first one of two unlike places is above the other one, by their texts."""
    return place == "/" or other.startswith(f"{place}/")


def sentences_of(kinds, numbers):
    """The list of all sentences; kinds has the places of both tables, ascending."""
    found = []
    # A place comes ahead of all below it: so the places above one are among the
    # place ahead of it and those above that one.
    above = []
    for place in kinds:
        while above and not is_above(above[-1], place):
            above.pop()
        found.extend(sentences_at(kinds, numbers, above, place))
        above.append(place)
    return found


class Exchange:
    """The exchange from one table to another one. It never changes."""

    def __init__(self, first, second, *, divided=()):
        check_like(first, second)
        rows, others = rows_of(first), rows_of(second)
        places = tuple(sorted({**rows, **others}))
        if len(places) > Table.MOST:
            raise TooMany(Table.MOST)
        self.columns = first.columns
        self.divided = divided_places(rows, others, divided)
        self._places = places
        self._first = rows
        self._second = others
        self._kinds = {}
        steps = []
        for place in places:
            before, after = rows.get(place, {}), others.get(place, {})
            kinds = kinds_at(self.columns, before, after)
            changed = tuple([column for column in kinds if kinds[column] != "kept"])
            if changed:
                steps.extend(steps_at(place, changed, before, after, place in self.divided))
            self._kinds[place] = kinds
        self.steps = tuple(steps)
        self._numbers = numbers_by_place(steps)
        self.sentences = tuple(sentences_of(self._kinds, self._numbers))

    # A property, because `places` is one of a table, too.
    @property
    def places(self):
        """The ascending tuple of all places with a row in one of the tables."""
        return self._places

    def first_copy(self):
        """A new copy of the first table."""
        return table_of(self.columns, self._first)

    def second_copy(self):
        """A new copy of the second table."""
        return table_of(self.columns, self._second)

    def __len__(self):
        return len(self.steps)

    def kind(self, place, column):
        """The kind of the cell, or None if neither table has it."""
        text, _ = spot_of(self.columns, place, column)
        return self._kinds[text].get(column) if text in self._kinds else None

    def above(self, place, column):
        """The nearest place strictly above with a cell of either table, or None."""
        text, _ = spot_of(self.columns, place, column)
        for spot in upward(text)[1:]:
            if spot in self._kinds and column in self._kinds[spot]:
                return spot
        return None

    def number_of(self, place, column):
        """The number of the step that changes the cell, or None."""
        text, _ = spot_of(self.columns, place, column)
        return self._numbers[text].get(column) if text in self._numbers else None

    def back(self):
        """The exchange from the second table to the first."""
        return Exchange(self.second_copy(), self.first_copy(), divided=self.divided)

    def divide(self, *places):
        """The exchange in which these places are divided, too."""
        return Exchange(self.first_copy(), self.second_copy(), divided=self.divided + places)

    def __eq__(self, other):
        return (
            isinstance(other, Exchange)
            and self.columns == other.columns
            and self._first == other._first
            and self._second == other._second
            and self.divided == other.divided
        )


def unlike(exchange):
    """An exchange with cells of the same kinds in which no two cells say the same but the kept ones."""
    first, second = {}, {}
    count = 0
    for place in exchange.places:
        for column in exchange.columns:
            kind = exchange.kind(place, column)
            if kind in ("old", "turned", "kept"):
                first.setdefault(place, {})[column] = f"a{count}"
            if kind in ("new", "turned"):
                second.setdefault(place, {})[column] = f"b{count}"
            if kind == "kept":
                second.setdefault(place, {})[column] = f"a{count}"
            count += 1
    return Exchange(
        Table(exchange.columns, first), Table(exchange.columns, second), divided=exchange.divided
    )
