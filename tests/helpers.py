"""What several tests share: refused calls, values that are wrong, and answers found in another way."""

import unittest

from nearestsays.errors import TableError
from nearestsays.places import Place
from nearestsays.tables import Table

NO_NAMES = ["", "a" * 9, "A", "aB", "a b", "a-b", "a_b", "/a", " a", "a\n", "\t", True, False, None, 0, 7,
            [], ["a"], (), ("a",), {}, {"a": "b"}, Place("a"), Place(), Table(["r"])]

NO_PLACES = ["", "a", "ab", "a/b", "xa/b", "//", "/a/", "/a//b", "//a", " /a", "/a ", "/A", "/a-b", "/a\n", "/a/./b",
             "/" + "a" * 9, "/a" * 9, True, False, None, 0, 1, [], ["/a"], ("/a",), (), {}, {"/a": 1},
             Table(["r"])]


def values(exchange):
    """Values of all kinds, of which most functions want none."""
    return [None, True, False, 0, 1, -1, 2000, "", "0", "strict", "broken", "/p", "a b\n\t~", (), (0,), ("strict",), ((),), ((0, 1),),
            [], [0], [[]], {}, {0: 1}, {"/p": {"r": "x"}}, Place("p"), Place(), Table(["r"]), exchange, exchange.first_copy(),
            exchange.steps[:1], *exchange.steps[:1], exchange.sentences[:1], list(exchange.sentences), (None,) * 6]


def same(one, other):
    """Whether two values are equal and of one kind, down to their parts."""
    if type(one) is not type(other):
        return False
    if isinstance(one, (list, tuple)):
        return len(one) == len(other) and all(same(a, b) for a, b in zip(one, other))
    if isinstance(one, dict):
        return one.keys() == other.keys() and all(same(one[key], other[key]) for key in one)
    return one == other


class Case(unittest.TestCase):
    def same(self, got, wanted):
        self.assertTrue(same(got, wanted), f"{got!r} is not {wanted!r}")

    def refused(self, error, attributes, call, *args, **named):
        """The call raises just this error, with these attributes."""
        with self.assertRaises(TableError) as caught:
            call(*args, **named)
        self.assertIs(type(caught.exception), error)
        self.same(vars(caught.exception), attributes)


def get(table, place):
    return table[place]


def put(table, place, cells):
    table[place] = cells


def change(table, rows):
    """Sets rows by the sign; the table that the sign leaves behind."""
    table |= rows
    return table


def joined(table, rows):
    return table | rows


def rows_of(table):
    return {place: table[place] for place in table.places}


def forty(column="r"):
    """A table of forty rows: /p10 to /p49."""
    return Table.plain(column, {f"/p{number}": f"a{number}" for number in range(10, 50)})


def names_of(text):
    return tuple(name for name in text.split("/") if name)


def speaker_of(rows, place, column):
    """The place of the nearest row at or above with this column, found over all rows."""
    names = names_of(place)
    heard = [spot for spot in rows if column in rows[spot] and names[:len(names_of(spot))] == names_of(spot)]
    return max(heard, key=lambda spot: len(names_of(spot)), default=None)


def told_by(rows, place, column):
    spot = speaker_of(rows, place, column)
    return None if spot is None else rows[spot][column]
