"""Tables: rows of cells at places, and what each place is told."""

from nearestsays.errors import BadCells, BadColumn, BadPlace, NoRow, TooMany, UnlikeColumns
from nearestsays.places import is_name, is_place, is_place_text, text_of, upward


def checked_columns(columns):
    """The columns as a tuple, if they are columns of a table."""
    if not isinstance(columns, (list, tuple)) or not 0 < len(columns) <= Table.WIDEST:
        raise BadColumn(None)
    for at, column in enumerate(columns):
        if not is_name(column) or column in columns[:at]:
            raise BadColumn(column)
    return tuple(columns)


def are_cells(columns, value):
    """Whether any value is cells of a table with these columns."""
    if not isinstance(value, dict) or not value:
        return False
    return all([column in columns and is_name(value[column]) for column in value])


def merged(columns, held, rows):
    """The rows that are held with others set, as a new dict."""
    places = sorted(rows)
    for place in places:
        if not is_place_text(place):
            raise BadPlace(place)
    for place in places:
        if not are_cells(columns, rows[place]):
            raise BadCells(place)
    fresh = {place: dict(rows[place]) for place in places}
    both = {**held, **fresh}
    if len(both) > Table.MOST:
        raise TooMany(Table.MOST)
    return both


def spot_of(columns, place, column):
    """The pair of the text of a place and one of the columns."""
    text = text_of(place)
    if column not in columns:
        raise BadColumn(column)
    return (text, column)


def check_like(one, other):
    """Refuses two tables that have not the same columns in the same order."""
    if one.columns != other.columns:
        raise UnlikeColumns()


def rows_of(table):
    """The rows of a table by the texts of their places, as it keeps them: they are only read."""
    return table._rows


def table_of(columns, rows):
    """A table that keeps these rows, which are such of a table with these columns."""
    table = Table(columns)
    table._rows = rows
    return table


def cells_at(table, place):
    """The cells of the row at the text of a place, {} if there is no row; they are only read."""
    return table._rows.get(place, {})


class Table:
    """A table that can be changed row by row."""

    MOST = 40
    WIDEST = 3

    # The dict of the rows and the dicts of their cells are never changed, only
    # replaced: so a copy, a block, a generator and an exchange may keep the dict
    # that stands.
    def __init__(self, columns, rows=None):
        self.columns = checked_columns(columns)
        self._rows = {} if rows is None else merged(self.columns, {}, rows)

    @classmethod
    def plain(cls, column, answers):
        """A table with one column; answers is a dict from texts of places to answers."""
        if not is_name(column):
            raise BadColumn(column)
        return cls([column], {place: {column: answers[place]} for place in answers})

    @property
    def places(self):
        """The ascending tuple of the places of the rows."""
        return tuple(sorted(self._rows))

    def __getitem__(self, at):
        text = text_of(at)
        if text not in self._rows:
            raise NoRow(text)
        return dict(self._rows[text])

    def __setitem__(self, at, worth):
        text = text_of(at)
        self._rows = merged(self.columns, self._rows, {text: worth})

    def __iter__(self):
        raise TypeError("a table is not iterated over: take its places or its cells")

    def put(self, place, **cells):
        """Sets the whole row to the cells that are passed by their columns."""
        self[place] = cells

    def take(self, place):
        """Takes the row out and returns its cells."""
        cells = self[place]
        text = text_of(place)
        self._rows = {spot: self._rows[spot] for spot in self._rows if spot != text}
        return cells

    def __contains__(self, x):
        return is_place(x) and text_of(x) in self._rows

    def __len__(self):
        return len(self._rows)

    def __call__(self, place):
        return self.told(place)

    def told(self, place, *columns):
        """What the place is told in these columns, in all of them if none is passed."""
        text = text_of(place)
        for column in columns:
            if column not in self.columns:
                raise BadColumn(column)
        asked = columns if columns else self.columns
        return tuple([self._answer(text, column) for column in asked])

    def speaker(self, place, column):
        """The place of the cell that the place hears, or None."""
        text, _ = spot_of(self.columns, place, column)
        return self._nearest(text, column)

    def _nearest(self, text, column):
        for spot in upward(text):
            if spot in self._rows and column in self._rows[spot]:
                return spot
        return None

    def _answer(self, text, column):
        spot = self._nearest(text, column)
        return None if spot is None else self._rows[spot][column]

    def cells(self):
        """Yields (place, column, answer) for each cell, by place, then by column."""
        rows = self._rows
        for place in sorted(rows):
            for column in self.columns:
                if column in rows[place]:
                    yield (place, column, rows[place][column])

    def update(self, rows):
        """Sets all these rows, each one as a whole."""
        self._rows = merged(self.columns, self._rows, rows)

    def __ior__(self, other):
        self._rows = merged(self.columns, self._rows, other)
        return self

    def __or__(self, other):
        return table_of(self.columns, merged(self.columns, self._rows, other))

    def copy(self):
        """A table of its own that is equal."""
        return table_of(self.columns, self._rows)

    def __eq__(self, other):
        return isinstance(other, Table) and self.columns == other.columns and self._rows == other._rows

    def __bool__(self):
        return bool(self._rows)

    def editing(self):
        """A block which, left by an error, leaves the table as it was when the block began."""
        return Editing(self)

    def attempt(self, ask):
        """Calls ask in such a block and returns what it returns."""
        with self.editing():
            return ask()


class Editing:
    """The block that a table's `editing` gives; each block is one of its own."""

    def __init__(self, table):
        self.table = table
        self.kept = None

    def __enter__(self):
        self.kept = self.table._rows
        return self.table

    def __exit__(self, kind, value, trace):
        table = self.table
        if kind is not None:
            table._rows = self.kept
