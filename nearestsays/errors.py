"""The errors of the package; each keeps what it was made with under the names of its attributes."""


class TableError(ValueError):
    """The base class of all errors of this package."""


class BadName(TableError):
    """A value that is no name stands where a name is wanted."""

    def __init__(self, value):
        self.value = value


class BadPlace(TableError):
    """A value that is no place stands where a place is wanted."""

    def __init__(self, value):
        self.value = value


class BadColumn(TableError):
    """A value is no column, or the columns are no columns of a table (None)."""

    def __init__(self, value):
        self.value = value


class BadCells(TableError):
    """The row for this place is told by a value that is not cells."""

    def __init__(self, place):
        self.place = place


class NoRow(TableError):
    """There is no row at this place."""

    def __init__(self, place):
        self.place = place


class UnlikeColumns(TableError):
    """Two tables have not the same columns in the same order."""


class TooMany(TableError):
    """There are more of something than this number allows."""

    def __init__(self, most):
        self.most = most


class NoStep(TableError):
    """There is no such step, or no step at this place."""

    def __init__(self, value):
        self.value = value


class BadPlan(TableError):
    """The numbers make no plan: the item at this index is wrong; None if they are no list or tuple."""

    def __init__(self, at):
        self.at = at


class NoOrder(TableError):
    """No order has just k orders ahead of it."""

    def __init__(self, k):
        self.k = k


class Ringed(TableError):
    """The sentences form this ring, so there is no order."""

    def __init__(self, ring):
        self.ring = ring


class Divided(TableError):
    """This place is divided, and only whole rows are wanted."""

    def __init__(self, place):
        self.place = place


class BadStanding(TableError):
    """A value is no standing of the exchange."""

    def __init__(self, value):
        self.value = value


class ManyColumns(TableError):
    """There are more columns than one."""


class Clash(TableError):
    """Two exchanges cannot go on together because of this place."""

    def __init__(self, place):
        self.place = place


class BadHearings(TableError):
    """A value is no row of hearings: the item at this index is wrong; None if it is no list or tuple."""

    def __init__(self, at):
        self.at = at


class Contradiction(TableError):
    """No strict whole plan fits what was heard."""

    def __init__(self, value):
        self.value = value


class ThirdAnswer(TableError):
    """The place would be told an answer in the column that neither table gives."""

    def __init__(self, place, column, heard):
        self.place = place
        self.column = column
        self.heard = heard


class TooEarly(TableError):
    """The step with this number may not be done: the one called ahead must be done first."""

    def __init__(self, number, ahead):
        self.number = number
        self.ahead = ahead


class NoExchange(TableError):
    """No exchange is under way."""


class Underway(TableError):
    """An exchange is under way."""


class BadRule(TableError):
    """A value is no rule of a live table."""

    def __init__(self, value):
        self.value = value


class BadText(TableError):
    """A text is not written as it must be: this word of this line cannot stand."""

    def __init__(self, line, word):
        self.line = line
        self.word = word


class BadLine(TableError):
    """A line for the desk has no known form: this word cannot stand."""

    def __init__(self, word):
        self.word = word
