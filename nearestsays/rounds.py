"""Rounds: sets of steps that are done one set after another, each set in any order."""

from nearestsays.orders import least_order
from nearestsays.plans import is_number
from nearestsays.rings import steps_ahead, steps_behind


def earliest_rounds(exchange):
    """By each step the earliest round in which it can stand."""
    order = least_order(exchange)
    aheads = steps_ahead(exchange)
    found = {}
    for number in order.numbers:
        found[number] = max([found[other] + 1 for other in aheads[number]], default=0)
    return found


def rounds(exchange):
    """The list of the fewest safe rounds, in which each step stands as early as it can."""
    found = earliest_rounds(exchange)
    rows = []
    for number in range(len(exchange)):
        while len(rows) <= found[number]:
            rows.append([])
        rows[found[number]].append(number)
    return [tuple(row) for row in rows]


def longest_ways(exchange):
    """By each step how many steps the longest chain has that begins with it."""
    order = least_order(exchange)
    behinds = steps_behind(exchange)
    found = {}
    for number in order.numbers[::-1]:
        found[number] = max([found[other] + 1 for other in behinds[number]], default=1)
    return found


def chain(exchange):
    """The least of the longest tuples in which each step and the next one are those of a sentence."""
    ways = longest_ways(exchange)
    behinds = steps_behind(exchange)
    row = []
    fit = sorted(ways)
    for left in range(max(list(ways.values()), default=0), 0, -1):
        row.append(min([number for number in fit if ways[number] == left]))
        fit = behinds[row[-1]]
    return tuple(row)


def spots_in(exchange, value):
    """By each step the index of its round; None if the value is not rounds in which each step stands once."""
    if not isinstance(value, (list, tuple)):
        return None
    spots = {}
    for at, row in enumerate(value):
        if not isinstance(row, tuple) or not row:
            return None
        for number in row:
            if not is_number(exchange, number) or number in spots:
                return None
            spots[number] = at
    return spots if len(spots) == len(exchange) else None


def is_chain(exchange, value):
    """Whether any value is a tuple of steps, each one and the next one those of a sentence."""
    if not isinstance(value, tuple) or not all([is_number(exchange, number) for number in value]):
        return False
    behinds = steps_behind(exchange)
    return all([later in behinds[number] for number, later in zip(value, value[1:])])


def shows_rounds(exchange, rounds, chain):
    """Whether these are safe rounds, and this a chain that shows that fewer ones are not safe, of any values."""
    spots = spots_in(exchange, rounds)
    if spots is None or not is_chain(exchange, chain):
        return False
    return len(chain) == len(rounds) and all([
        spots[sentence[0]] < spots[sentence[1]]
        for sentence in exchange.sentences
    ])
