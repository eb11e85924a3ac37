"""Orders: the strict whole plans of an exchange, one after another."""

from nearestsays.errors import Ringed
from nearestsays.plans import Plan
from nearestsays.rings import ring, steps_ahead


def free_steps(aheads, done):
    """The ascending list of the steps that are not done and of which all that must come ahead are."""
    held = {number: True for number in done}
    return [
        number
        for number in range(len(aheads))
        if number not in held and all([other in held for other in aheads[number]])
    ]


def ready(plan):
    """The ascending tuple of the steps that are not in the plan and that no sentence puts behind another such one."""
    return tuple(free_steps(steps_ahead(plan.exchange), plan.numbers))


def least_row(aheads, head):
    """The numbers of the least order that begins with these ones."""
    row = list(head)
    while len(row) < len(aheads):
        row.append(free_steps(aheads, row)[0])
    return row


def next_row(aheads, row):
    """The numbers of the order behind this one, None if it is the last one."""
    for cut in range(len(row) - 1, -1, -1):
        head = row[:cut]
        later = [number for number in free_steps(aheads, head) if number > row[cut]]
        if later:
            return least_row(aheads, head + later[:1])
    return None


def orders(exchange):
    """Yields all orders, ascending; none if the sentences form a ring."""
    if ring(exchange) is not None:
        return
    # Without a ring each strict plan begins an order: so no way is tried in vain.
    aheads = steps_ahead(exchange)
    row = least_row(aheads, [])
    while row is not None:
        yield Plan(exchange, row)
        row = next_row(aheads, row)


def least_order(exchange):
    """The first order."""
    found = ring(exchange)
    if found is not None:
        raise Ringed(found)
    return Plan(exchange, least_row(steps_ahead(exchange), []))
