"""Least tables: the cells that are needless, and tables that tell the same."""

from nearestsays.places import Place
from nearestsays.tables import Table, check_like


def said_above(table, place, column):
    """What the nearest cell of the column strictly above the place says, or None."""
    up = Place.read(place).up
    return None if up is None else table.told(up, column)[0]


def needless(table):
    """The ascending list of the pairs (place, column) of the cells that say what is said above."""
    return [
        (place, column)
        for place, column, answer in table.cells()
        if said_above(table, place, column) == answer
    ]


def least(table):
    """A new table without the needless cells."""
    rows = {}
    for place, column, answer in table.cells():
        if said_above(table, place, column) != answer:
            rows.setdefault(place, {})[column] = answer
    return Table(table.columns, rows)


def parted(one, other):
    """The first (place, column) at which the tables tell unlike answers, or None."""
    check_like(one, other)
    # What a place is told changes only at a row of one of the tables, so no
    # other place can be the first one.
    for place in sorted(set(one.places + other.places)):
        for column in one.columns:
            if one.told(place, column) != other.told(place, column):
                return (place, column)
    return None


def alike(one, other):
    """Whether both tables tell every place the same in all columns."""
    return parted(one, other) is None


def closest(table, wished):
    """The table that tells what wished tells and differs from table at the fewest places."""
    check_like(table, wished)
    rows = {}
    for place, column, answer in table.cells():
        if wished.told(place, column)[0] == answer:
            rows.setdefault(place, {})[column] = answer
    small = least(wished)
    for place, column, answer in small.cells():
        rows.setdefault(place, {})[column] = answer
    return Table(table.columns, rows)
