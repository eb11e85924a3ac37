"""Steps: the changes of one row, or of one cell of it, that exchanges consist of."""

from nearestsays.tables import Table, cells_at


def whole_step(place, columns, before, after):
    """The step that changes a whole row from the cells before to those after."""
    if not before:
        return Put("put", place, columns, before, after)
    if not after:
        return Take("take", place, columns, before, after)
    return Edit("edit", place, columns, before, after)


def part_step(place, column, before, after):
    """The step that changes one cell; before and after hold this cell at most."""
    return Part("part", place, (column,), before, after)


def with_row(table, place, cells):
    """A new table in which the row at the place has these cells; without cells it is gone."""
    rows = {spot: table[spot] for spot in table.places if spot != place}
    if cells:
        rows[place] = cells
    return Table(table.columns, rows)


class Step:
    """A change of the row at one place. Steps are made by exchanges."""

    def __init__(self, word, place, columns, before, after):
        self.word = word
        self.place = place
        self.columns = columns
        self._before = before
        self._after = after

    @property
    def before(self):
        """A new dict with the cells in the first table."""
        return dict(self._before)

    @property
    def after(self):
        """A new dict with the cells in the second table."""
        return dict(self._after)

    def on(self, table):
        """A new table in which this step is done, whatever stood at its place."""
        return with_row(table, self.place, self._after)

    def __invert__(self):
        return whole_step(self.place, self.columns, self._after, self._before)

    def __eq__(self, other):
        return (
            isinstance(other, Step)
            and self.word == other.word
            and self.place == other.place
            and self.columns == other.columns
            and self._before == other._before
            and self._after == other._after
        )

    def __str__(self):
        return f"{self.word} {self.place}"


class Put(Step):
    """Puts a row where there is none."""


class Take(Step):
    """Takes a row out."""


class Edit(Put, Take):
    """Puts one row in the place of another one."""


class Part(Edit):
    """Changes one cell of a row at a divided place."""

    def on(self, table):
        row = cells_at(table, self.place)
        kept = {column: row[column] for column in row if column not in self.columns}
        return with_row(table, self.place, {**kept, **self._after})

    def __invert__(self):
        column = self.columns[0]
        return part_step(self.place, column, self._after, self._before)

    def __str__(self):
        return f"{self.word} {self.place} {self.columns[0]}"
