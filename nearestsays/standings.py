"""Standings: sets of steps that are done, judged by what the places are really told."""

from nearestsays.errors import BadStanding, ManyColumns
from nearestsays.judge import lower_number
from nearestsays.plans import Plan, cell_lines, is_number, third_told


def is_standing(exchange, value):
    """Whether any value is an ascending tuple of numbers of steps."""
    if not isinstance(value, tuple) or not all([is_number(exchange, number) for number in value]):
        return False
    return all([number < later for number, later in zip(value, value[1:])])


def check_standing(exchange, value):
    """Refuses any value that is no standing of the exchange."""
    if not is_standing(exchange, value):
        raise BadStanding(value)


def table_at(exchange, standing):
    """The table that stands when just these steps are done."""
    check_standing(exchange, standing)
    return Plan(exchange, standing).table_behind()


def third_at(exchange, standing):
    """The first place and column that are told a third answer, and the answer, or None."""
    check_standing(exchange, standing)
    return third_told(cell_lines(exchange), standing)


def is_right(exchange, standing):
    """Whether each place is told one of its two answers."""
    return third_at(exchange, standing) is None


def is_strict(exchange, standing):
    """Whether with each step each one that must come ahead of it is done."""
    check_standing(exchange, standing)
    return all([
        sentence[0] in standing
        for sentence in exchange.sentences
        if sentence[1] in standing
    ])


def may_come(exchange, standing):
    """The ascending tuple of the steps that are not done and with each of which the standing is right."""
    check_standing(exchange, standing)
    lines = cell_lines(exchange)
    left = [number for number in range(len(exchange)) if number not in standing]
    return tuple([number for number in left if third_told(lines, (*standing, number)) is None])


def check_one_column(exchange):
    """Refuses an exchange with more columns than one."""
    if len(exchange.columns) > 1:
        raise ManyColumns()


def product_of(numbers):
    """The product of a list of numbers."""
    total = 1
    for number in numbers:
        total = total * number
    return total


def ways_under(line, below, heard):
    """In how many ways the steps of a cell and of those below it can be done or not, so that all is right there.

    heard is what the place above is told; below has for each of the next cells
    below a dict of these numbers by what the place of this cell is told.
    """
    number, says, pair = line[3:]
    total = 0
    # What a kept cell says is the same with any steps.
    for answer in says[:1] if number is None else says:
        told = heard if answer is None else answer
        if told in pair:
            total += product_of([ways[told] for ways in below])
    return total


def right_standings(exchange):
    """How many right standings there are; for one column."""
    check_one_column(exchange)
    lines = cell_lines(exchange)
    belows = [[] for _ in lines]
    total = 1
    # Cells stand ahead of those below them, so backwards all below is counted.
    for at in range(len(lines) - 1, -1, -1):
        upper = lines[at][2]
        if upper is None:
            total = total * ways_under(lines[at], belows[at], None)
        else:
            ways = {heard: ways_under(lines[at], belows[at], heard) for heard in lines[upper][5]}
            belows[upper].append(ways)
    return total


def strict_standings(exchange):
    """How many strict standings there are; for one column."""
    check_one_column(exchange)
    done = [1 for _ in exchange.steps]
    left = [1 for _ in exchange.steps]
    lowers = {}
    # For each step: how many there are of it and the steps below it, with it
    # done and with it left. With one column a step is the lower one of one
    # sentence at most, and backwards all below it is counted by then.
    for sentence in exchange.sentences[::-1]:
        ahead, behind = sentence[:2]
        lower = lower_number(sentence)
        lowers[lower] = True
        if lower == behind:
            done[ahead] *= done[lower] + left[lower]
            left[ahead] *= left[lower]
        else:
            done[behind] *= done[lower]
            left[behind] *= done[lower] + left[lower]
    tops = [number for number in range(len(exchange)) if number not in lowers]
    return product_of([done[number] + left[number] for number in tops])
