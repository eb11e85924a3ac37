"""Orders: the strict whole plans of an exchange, one after another."""

from nearestsays.errors import Ringed
from nearestsays.plans import Plan
from nearestsays.rings import ring

# Sets of steps are written as bits here: the bit of a step is 1 << number.


def bits_of(numbers):
    """The bits of the steps with these unlike numbers."""
    return sum([1 << number for number in numbers])


def ahead_bits(exchange):
    """For each step, by its number, the bits of the steps that a sentence puts ahead of it."""
    found = [0] * len(exchange)
    for sentence in exchange.sentences:
        found[sentence[1]] |= 1 << sentence[0]
    return found


def free_steps(aheads, done):
    """The ascending list of the steps that are not among the bits done and of which all that must come ahead are."""
    return [number for number, ahead in enumerate(aheads) if ahead & done == ahead and not done >> number & 1]


def check_ringless(exchange):
    """Refuses an exchange whose sentences form a ring."""
    found = ring(exchange)
    if found is not None:
        raise Ringed(found)


def ready(plan):
    """The ascending tuple of the steps that are not in the plan and that no sentence puts behind another such one."""
    return tuple(free_steps(ahead_bits(plan.exchange), bits_of(plan.numbers)))


def least_row(aheads, head):
    """The numbers of the least order that begins with these ones."""
    row = list(head)
    done = bits_of(row)
    while len(row) < len(aheads):
        number = free_steps(aheads, done)[0]
        row.append(number)
        done |= 1 << number
    return row


def next_row(aheads, row):
    """The numbers of the order behind this one, None if it is the last one."""
    for cut in range(len(row) - 1, -1, -1):
        head = row[:cut]
        later = [number for number in free_steps(aheads, bits_of(head)) if number > row[cut]]
        if later:
            return least_row(aheads, head + later[:1])
    return None


def orders(exchange):
    """Yields all orders, ascending; none if the sentences form a ring."""
    if ring(exchange) is not None:
        return
    # Without a ring each strict plan begins an order: so no way is tried in vain.
    aheads = ahead_bits(exchange)
    row = least_row(aheads, [])
    while row is not None:
        yield Plan(exchange, row)
        row = next_row(aheads, row)


def least_order(exchange):
    """The first order."""
    check_ringless(exchange)
    return Plan(exchange, least_row(ahead_bits(exchange), []))
