"""Room: how many rows a table has at most while it is changed."""

from nearestsays.counting import MOST_STANDINGS
from nearestsays.errors import Divided, TooMany
from nearestsays.orders import ahead_bits, bits_of, check_ringless, free_steps
from nearestsays.standings import is_standing, is_strict

# Sets of steps are written as bits here: the bit of a step is 1 << number.

GROWTH = {"put": 1, "take": -1, "edit": 0}


def check_undivided(exchange):
    """Refuses an exchange with divided places."""
    if exchange.divided:
        raise Divided(exchange.divided[0])


def whole_bits(exchange):
    """The bits of all steps."""
    return (1 << len(exchange)) - 1


def growths(exchange):
    """By how many rows the table grows with each step."""
    return [GROWTH[step.word] for step in exchange.steps]


def room(plan):
    """The greatest number of rows that a table has at a moment of the plan."""
    exchange = plan.exchange
    check_undivided(exchange)
    growth = growths(exchange)
    many = most = len(exchange.first_copy())
    for number in plan.numbers:
        many += growth[number]
        most = max(most, many)
    return most


def strict_heights(exchange):
    """By each strict standing, as bits, how many rows stand there; those with fewer steps come first."""
    check_undivided(exchange)
    check_ringless(exchange)
    aheads = ahead_bits(exchange)
    growth = growths(exchange)
    heights = {0: len(exchange.first_copy())}
    level = [0]
    while level:
        following = {}
        for done in level:
            for number in free_steps(aheads, done):
                following[done | 1 << number] = heights[done] + growth[number]
            if len(heights) + len(following) > MOST_STANDINGS:
                raise TooMany(MOST_STANDINGS)
        heights.update(following)
        level = list(following)
    return heights


def rooms_on(exchange, heights):
    """By each strict standing, as bits, the least room of the strict ways that lead from it to the whole one."""
    aheads = ahead_bits(exchange)
    found = {}
    for done in list(heights)[::-1]:
        more = [found[done | 1 << number] for number in free_steps(aheads, done)]
        found[done] = max(heights[done], min(more, default=0))
    return found


def first_within(exchange, rooms, most):
    """The numbers of the first order whose room is at most this; there is one."""
    aheads = ahead_bits(exchange)
    row = []
    done = 0
    while len(row) < len(exchange):
        fit = [number for number in free_steps(aheads, done) if rooms[done | 1 << number] <= most]
        row.append(fit[0])
        done |= 1 << fit[0]
    return tuple(row)


def least_room(exchange):
    """The least room of an order, and the numbers of the first order with this room."""
    rooms = rooms_on(exchange, strict_heights(exchange))
    return (rooms[0], first_within(exchange, rooms, rooms[0]))


def within(exchange, most):
    """The numbers of the first order whose room is at most this; None if there is none."""
    rooms = rooms_on(exchange, strict_heights(exchange))
    return None if rooms[0] > most else first_within(exchange, rooms, most)


def reached_within(exchange, heights, most):
    """By their bits the strict standings to which strict plans lead whose room is at most this."""
    aheads = ahead_bits(exchange)
    found = {} if heights[0] > most else {0: ()}
    for done in heights:
        if done in found:
            for number in free_steps(aheads, done):
                more = done | 1 << number
                if heights[more] <= most and more not in found:
                    found[more] = tuple(sorted((*found[done], number)))
    return found


def barred(exchange, most):
    """None if an order has at most this room; otherwise the standings to which plans with at most this room lead."""
    found = reached_within(exchange, strict_heights(exchange), most)
    if whole_bits(exchange) in found:
        return None
    pairs = sorted([(len(standing), standing) for standing in list(found.values())])
    return tuple([standing for _, standing in pairs])


def strict_by_bits(exchange, thing):
    """By their bits the standings of a list or tuple of strict ones, none twice; None for any other value."""
    if not isinstance(thing, (list, tuple)):
        return None
    found = {}
    for value in thing:
        if not is_standing(exchange, value) or not is_strict(exchange, value) or bits_of(value) in found:
            return None
        found[bits_of(value)] = value
    return found


def shows_barred(exchange, most, thing):
    """Whether any value is strict standings that show that no order has at most this room."""
    check_undivided(exchange)
    check_ringless(exchange)
    shown = strict_by_bits(exchange, thing)
    first = len(exchange.first_copy())
    if shown is None or (first <= most and 0 not in shown) or whole_bits(exchange) in shown:
        return False
    aheads = ahead_bits(exchange)
    growth = growths(exchange)
    for done in shown:
        many = first + sum([growth[number] for number in shown[done]])
        fit = [number for number in free_steps(aheads, done) if many + growth[number] <= most]
        if many > most or not all([done | 1 << number in shown for number in fit]):
            return False
    return True
