"""Counting orders and numbering them, without going through them one by one."""

from math import comb

from nearestsays.errors import BadPlan, NoOrder, TooMany
from nearestsays.judge import broken
from nearestsays.orders import ahead_bits, bits_of, free_steps, ready
from nearestsays.places import is_integer
from nearestsays.plans import Plan
from nearestsays.rings import ring

MOST_STEPS = 24
MOST_STANDINGS = 2000


def has_circle(exchange):
    """Whether the sentences, each one a connection between two steps, connect some steps in a circle."""
    pairs = sorted({(min(s[0], s[1]), max(s[0], s[1])) for s in exchange.sentences})
    groups = list(range(len(exchange)))
    for one, other in pairs:
        kept, gone = groups[one], groups[other]
        if kept == gone:
            return True
        groups = [kept if group == gone else group for group in groups]
    return False


def strict_bits(aheads, most):
    """All strict standings as bits, those with fewer steps first; None if there are more."""
    found = [0]
    level = [0]
    while level:
        following = {}
        for done in level:
            for number in free_steps(aheads, done):
                following[done | 1 << number] = True
            if len(found) + len(following) > most:
                return None
        level = list(following)
        found.extend(level)
    return found


def ways_on(aheads, standings):
    """By each strict standing, as bits, in how many ways strict steps lead on from it to the whole one."""
    ways = {}
    for done in standings[::-1]:
        more = [ways[done | 1 << number] for number in free_steps(aheads, done)]
        ways[done] = sum(more) if more else 1
    return ways


def known_ways(exchange):
    """The ways on from each strict standing if the sentences connect a circle and form no ring, otherwise {}."""
    if len(exchange) > MOST_STEPS:
        raise TooMany(MOST_STEPS)
    if ring(exchange) is not None or not has_circle(exchange):
        return {}
    aheads = ahead_bits(exchange)
    standings = strict_bits(aheads, MOST_STANDINGS)
    if standings is None:
        raise TooMany(MOST_STANDINGS)
    return ways_on(aheads, standings)


def woven(row, other, is_ahead):
    """How many orders of two trees have the step of the first one at each index.

    row and other tell the same of the first tree and its step, and of the
    second tree and its step; is_ahead whether the step of the second one must
    come ahead of that of the first.
    """
    ways = [0] * (len(row) + len(other))
    for at in range(len(row)):
        for cut in range(len(other) + 1):
            # So many steps of the second tree come ahead of the step.
            fit = sum(other[:cut]) if is_ahead else sum(other[cut:])
            behind = len(row) - 1 - at
            shuffles = comb(at + cut, cut) * comb(behind + len(other) - cut, behind)
            ways[at + cut] += row[at] * fit * shuffles
    return ways


def tree_row(links, number, source):
    """How many orders of the tree of a step, seen from the step source on, have the step at each index."""
    row = [1]
    for other in links[number]:
        if other != source:
            row = woven(row, tree_row(links, other, number), links[number][other])
    return row


def links_between(exchange, done):
    """By each step that is not done those that sentences connect to it: whether they must come ahead of it."""
    links = {number: {} for number in range(len(exchange)) if number not in done}
    for sentence in exchange.sentences:
        ahead, behind = sentence[:2]
        if ahead in links and behind in links:
            links[behind][ahead] = True
            links[ahead][behind] = False
    return links


def steps_of_tree(links, number, source):
    """The list of the steps of the tree of a step, seen from the step source on."""
    row = [number]
    for other in links[number]:
        if other != source:
            row = row + steps_of_tree(links, other, number)
    return row


def tree_orders(exchange, done):
    """How many orders the steps that are not done have, if the sentences between them connect no circle."""
    links = links_between(exchange, done)
    counted = {}
    total = 1
    for number in links:
        if number not in counted:
            for step in steps_of_tree(links, number, None):
                counted[step] = True
            row = tree_row(links, number, None)
            total = total * sum(row) * comb(len(counted), len(row))
    return total


def orders_behind(exchange, ways, done):
    """How many orders do the steps of this strict standing first; ways as known of the exchange."""
    if ways:
        return ways[bits_of(done)]
    return tree_orders(exchange, done)


def all_orders(exchange, ways):
    """The number of orders, 0 with a ring; ways as known of the exchange."""
    return 0 if ring(exchange) is not None else orders_behind(exchange, ways, ())


def count(exchange):
    """The number of orders."""
    return all_orders(exchange, known_ways(exchange))


def nth(exchange, k):
    """The order that has just k orders ahead of it."""
    ways = known_ways(exchange)
    if not is_integer(k) or not 0 <= k < all_orders(exchange, ways):
        raise NoOrder(k)
    plan = Plan(exchange)
    left = k
    while not plan.is_whole:
        for number in ready(plan):
            longer = plan + number
            many = orders_behind(exchange, ways, longer.numbers)
            if left < many:
                break
            left -= many
        plan = longer
    return plan


def rank(plan):
    """The number of orders ahead of this one."""
    exchange = plan.exchange
    ways = known_ways(exchange)
    found = broken(plan)
    if found is not None:
        raise BadPlan(found[0] - 1)
    if not plan.is_whole:
        raise BadPlan(len(plan))
    total = 0
    for at, number in enumerate(plan.numbers):
        head = plan.head(at)
        for other in ready(head):
            if other < number:
                total += orders_behind(exchange, ways, (*head.numbers, other))
    return total
