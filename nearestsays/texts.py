"""Texts of tables and of plans, written and read."""

from nearestsays.errors import BadText
from nearestsays.exchange import Exchange
from nearestsays.places import is_name, is_place_text
from nearestsays.plans import Plan
from nearestsays.tables import Table, cells_at


def columns_line(table):
    """The line that tells the columns of a table."""
    return " ".join(["columns", *table.columns])


def row_lines(table, first_word):
    """The lines of the rows of a table, ascending."""
    lines = []
    for place in table.places:
        cells = table[place]
        words = [first_word, place]
        for column in table.columns:
            if column in cells:
                words.extend([column, cells[column]])
        lines.append(" ".join(words))
    return lines


def show_table(table):
    """The text of a table."""
    return "\n".join([columns_line(table), *row_lines(table, "row")])


def show_plan(plan):
    """The text of a plan."""
    exchange = plan.exchange
    first, second = exchange.first_copy(), exchange.second_copy()
    divided = [f"divided {place}" for place in exchange.divided]
    order = " ".join(["order", *[str(number) for number in plan.numbers]])
    return "\n".join([columns_line(first), *row_lines(first, "first"), *row_lines(second, "second"), *divided, order])


def lines_of(text):
    """The lines of a text, each one as the list of its words; refuses what is no string."""
    if not isinstance(text, str):
        raise BadText(0, 0)
    return [line.split(" ") for line in text.split("\n")]


def read_columns(words):
    """The columns that the first line tells."""
    if words[0] != "columns":
        raise BadText(0, 0)
    columns = words[1:]
    for at, column in enumerate(columns):
        if at == Table.WIDEST or not is_name(column) or column in columns[:at]:
            raise BadText(0, at + 1)
    if not columns:
        raise BadText(0, 1)
    return columns


def read_place(line, words, ahead):
    """The place that a line tells; it must come behind the one ahead, None if there is none."""
    if len(words) == 1 or not is_place_text(words[1]) or (ahead is not None and words[1] <= ahead):
        raise BadText(line, 1)
    return words[1]


def read_cells(line, words, columns):
    """The cells that the line of a row tells."""
    cells = {}
    left = columns
    for at in range(2, len(words), 2):
        if words[at] not in left:
            raise BadText(line, at)
        if at + 1 == len(words) or not is_name(words[at + 1]):
            raise BadText(line, at + 1)
        cells[words[at]] = words[at + 1]
        left = left[left.index(words[at]) + 1:]
    if not cells:
        raise BadText(line, 2)
    return cells


def is_row_too_many(words, rows, others):
    """Whether the place of a line is one more than may have a row; rows and others hold those that have one."""
    if len(words) == 1 or not is_place_text(words[1]) or words[1] in rows or words[1] in others:
        return False
    return len(set([*list(rows), *others])) == Table.MOST


def read_rows(lines, start, first_word, columns, others):
    """The rows that the lines with this first word tell, from the line start on.

    others are the places that have a row in the other table of a plan.
    """
    rows = {}
    ahead = None
    for line in range(start, len(lines)):
        words = lines[line]
        if words[0] != first_word:
            break
        if is_row_too_many(words, rows, others):
            raise BadText(line, 0)
        ahead = read_place(line, words, ahead)
        rows[ahead] = read_cells(line, words, columns)
    return rows


def read_divided(lines, start, first, second):
    """The places that the lines `divided` tell, from the line start on."""
    places = []
    ahead = None
    for line in range(start, len(lines)):
        words = lines[line]
        if words[0] != "divided":
            break
        ahead = read_place(line, words, ahead)
        if cells_at(first, ahead) == cells_at(second, ahead):
            raise BadText(line, 1)
        if len(words) > 2:
            raise BadText(line, 2)
        places.append(ahead)
    return places


def read_numbers(line, words, many):
    """The numbers that a line `order` tells, each one below many and none twice."""
    known = [str(number) for number in range(many)]
    for at in range(1, len(words)):
        if words[at] not in known or words[at] in words[1:at]:
            raise BadText(line, at)
    return [int(word) for word in words[1:]]


def check_end(lines, many):
    """Refuses what stands behind so many lines."""
    if len(lines) > many:
        raise BadText(many, 0)


def read_table(text):
    """The table with this text."""
    lines = lines_of(text)
    columns = read_columns(lines[0])
    rows = read_rows(lines, 1, "row", columns, ())
    check_end(lines, 1 + len(rows))
    return Table(columns, rows)


def read_plan(text):
    """The plan with this text."""
    lines = lines_of(text)
    columns = read_columns(lines[0])
    first = Table(columns, read_rows(lines, 1, "first", columns, ()))
    line = 1 + len(first)
    second = Table(columns, read_rows(lines, line, "second", columns, first.places))
    line = line + len(second)
    divided = read_divided(lines, line, first, second)
    line = line + len(divided)
    if line == len(lines) or lines[line][0] != "order":
        raise BadText(line, 0)
    exchange = Exchange(first, second, divided=divided)
    numbers = read_numbers(line, lines[line], len(exchange))
    check_end(lines, line + 1)
    return Plan(exchange, numbers)
