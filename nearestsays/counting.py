"""Counting orders and numbering them, without going through them one by one."""

from math import comb

from nearestsays.errors import BadPlan, NoOrder, TooMany
from nearestsays.orders import ahead_bits, free_steps
from nearestsays.places import is_integer
from nearestsays.plans import Plan

# Sets of steps are written as bits here: the bit of a step is 1 << number, and
# the bit of the first step of a set is bits & -bits.

MOST_STEPS = 24
MOST_STANDINGS = 2000


def numbers_of(bits):
    """The ascending list of the numbers of these steps."""
    found = []
    while bits:
        low = bits & -bits
        found.append(low.bit_length() - 1)
        bits ^= low
    return found


def first_bits(aheads, steps, rest):
    """The bits of those of the steps that none of the rest must come ahead of."""
    found = 0
    while steps:
        low = steps & -steps
        if not aheads[low.bit_length() - 1] & rest:
            found |= low
        steps ^= low
    return found


def some_order(aheads):
    """The numbers of the steps, each one behind those that must come ahead of it; with a ring not all of them."""
    done = 0
    row = []
    left = list(range(len(aheads)))
    while left:
        waiting = []
        for number in left:
            if aheads[number] & done == aheads[number]:
                done |= 1 << number
                row.append(number)
            else:
                waiting.append(number)
        if len(waiting) == len(left):
            return row
        left = waiting
    return row


class Links:
    """For each step, as bits, the steps that must come ahead of it, those behind it, and both together."""

    def __init__(self, aheads, behinds):
        self.aheads = aheads
        self.behinds = behinds
        self.near = [ahead | behind for ahead, behind in zip(aheads, behinds)]


def links_of(aheads):
    """The links of the steps, by the bits of those ahead of each one."""
    behinds = [0] * len(aheads)
    for number, ahead in enumerate(aheads):
        for other in numbers_of(ahead):
            behinds[other] |= 1 << number
    return Links(aheads, behinds)


def part_of(near, rest):
    """The steps of the rest that are connected to its first one within it, and how many these are."""
    part = front = rest & -rest
    many = 0
    while front:
        low = front & -front
        fresh = near[low.bit_length() - 1] & rest & ~part
        part |= fresh
        front ^= low | fresh
        many += 1
    return (part, many)


def parts_of(near, rest):
    """The list of the connected parts of the rest, each one with how many steps it has."""
    found = []
    while rest:
        pair = part_of(near, rest)
        found.append(pair)
        rest ^= pair[0]
    return found


def has_circle(exchange, parts):
    """Whether the sentences of an exchange without a ring connect steps of these parts in a circle."""
    pairs = {(sentence[0], sentence[1]) for sentence in exchange.sentences}
    return len(pairs) > len(exchange) - len(parts)


def closed(nexts, order):
    """For each step the bits of itself and of all to which the next ones lead; the order has these first."""
    found = [0] * len(nexts)
    for number in order:
        bits = 1 << number
        for other in numbers_of(nexts[number]):
            bits |= found[other]
        found[number] = bits
    return found


class Standings:
    """Counts strict standings without going through them."""

    def __init__(self, links, order):
        self.near = links.near
        self.with_ahead = closed(links.aheads, order)
        self.with_behind = closed(links.behinds, order[::-1])
        # Without a step that is near to many others the rest falls apart soonest.
        pairs = sorted([(-len(numbers_of(self.near[number])), number) for number in order])
        self.pivots = [number for _, number in pairs]
        self.known = {}

    def within(self, rest, most):
        """How many strict standings these steps alone have; any number above most, if there are more than most."""
        parts = parts_of(self.near, rest)
        total = 1 << len([part for part, many in parts if many == 1])
        for part, many in parts:
            # Once there are more than most it makes no difference how many more.
            if many > 1 and total <= most:
                total = total * self.of_part(part, most // total)
        return total

    def of_part(self, part, most):
        """The same of connected steps: without one of them and those behind it, or with it and those ahead of it."""
        if part not in self.known:
            pivot = [number for number in self.pivots if part >> number & 1][0]
            ways = self.within(part & ~self.with_behind[pivot], most)
            if ways <= most:
                ways += self.within(part & ~self.with_ahead[pivot], most - ways)
            # If these are more than most, then so are all, and no more is asked.
            self.known[part] = ways
        return self.known[part]


def has_too_many(links, order):
    """Whether all steps together have more than 2,000 strict standings; the order has each of them."""
    # Each set of those that need nothing ahead is one; all but a set of those for which nothing waits are one, too.
    free = max(links.aheads.count(0), links.behinds.count(0))
    if 1 << free > MOST_STANDINGS:
        return True
    whole = (1 << len(order)) - 1
    return Standings(links, order).within(whole, MOST_STANDINGS) > MOST_STANDINGS


def woven(row, other, is_ahead):
    """How many orders of two trees have the step of the first one at each index.

    row and other tell the same of the first tree and its step, and of the
    second tree and its step; is_ahead whether the step of the second one must
    come ahead of that of the first.
    """
    ways = [0] * (len(row) + len(other))
    for at in range(len(row)):
        for cut in range(len(other) + 1):
            # So many steps of the second tree come ahead of the step.
            fit = sum(other[:cut]) if is_ahead else sum(other[cut:])
            behind = len(row) - 1 - at
            shuffles = comb(at + cut, cut) * comb(behind + len(other) - cut, behind)
            ways[at + cut] += row[at] * fit * shuffles
    return ways


def tree_row(links, rest, number):
    """How many orders of the tree of a step within the rest, the step itself left out of it, have it at each index."""
    row = [1]
    for other in numbers_of(links.near[number] & rest):
        is_ahead = links.aheads[number] >> other & 1 == 1
        row = woven(row, tree_row(links, rest & ~(1 << other), other), is_ahead)
    return row


class Piece:
    """A connected piece of the steps, of which the rest is left; tells how many orders steps of it have.

    Here the sentences connect no circle.
    """

    def __init__(self, links, rest, many):
        self.links = links
        self.rest = rest
        self.many = many
        self.known = {}
        self.ways = self.orders_of(rest, many)

    def orders_of(self, rest, many):
        """How many orders so many steps of the piece have."""
        if rest not in self.known:
            total = 1
            so_far = 0
            for part, size in parts_of(self.links.near, rest):
                first = part & -part
                row = tree_row(self.links, part ^ first, first.bit_length() - 1)
                so_far += size
                total = total * comb(so_far, size) * sum(row)
            self.known[rest] = total
        return self.known[rest]

    def orders_without(self, number):
        """How many orders the rest has without this step."""
        return self.orders_of(self.rest ^ 1 << number, self.many - 1)

    def leave(self, number):
        """Takes this step away from the rest."""
        self.ways = self.orders_without(number)
        self.rest ^= 1 << number
        self.many -= 1


class Tangle(Piece):
    """A piece in which the sentences may connect circles; it goes through some of the strict standings alone."""

    def orders_of(self, rest, many):
        """How many orders so many steps of the piece have."""
        if rest not in self.known:
            aheads, behinds = self.links.aheads, self.links.behinds
            firsts, lasts = first_bits(aheads, rest, rest), first_bits(behinds, rest, rest)
            self.known[rest] = self.counted(rest, many, firsts, lasts, False)
        return self.known[rest]

    def counted(self, rest, many, firsts, lasts, is_one):
        """The same, by the bits of those that may come first and last; is_one tells that all are surely connected."""
        if many < 2:
            return 1
        if rest not in self.known:
            part, size = (rest, many) if is_one else part_of(self.links.near, rest)
            if part == rest:
                self.known[rest] = self.by_ends(rest, many, firsts, lasts)
            else:
                ways = self.counted(part, size, firsts & part, lasts & part, True)
                others = self.counted(rest ^ part, many - size, firsts & ~part, lasts & ~part, False)
                self.known[rest] = comb(many, size) * ways * others
        return self.known[rest]

    def by_ends(self, rest, many, firsts, lasts):
        """The same of connected steps: one of them comes first, or last, where much fewer can; then the others."""
        aheads, behinds = self.links.aheads, self.links.behinds
        starts, ends = numbers_of(firsts), numbers_of(lasts)
        total = 0
        # A step that is connected to one other alone keeps nothing together.
        if 2 * len(ends) <= len(starts):
            for number in ends:
                left = rest ^ 1 << number
                near = aheads[number] & left
                following = lasts ^ 1 << number | first_bits(behinds, near, left)
                total += self.counted(left, many - 1, firsts, following, not near & (near - 1))
        else:
            for number in starts:
                left = rest ^ 1 << number
                near = behinds[number] & left
                following = firsts ^ 1 << number | first_bits(aheads, near, left)
                total += self.counted(left, many - 1, following, lasts, not near & (near - 1))
        return total


def pieces_of(exchange, aheads, order):
    """The list of the pieces of an exchange without a ring."""
    links = links_of(aheads)
    whole = (1 << len(order)) - 1
    parts = parts_of(links.near, whole)
    if not has_circle(exchange, parts):
        return [Piece(links, part, many) for part, many in parts]
    if has_too_many(links, order):
        raise TooMany(MOST_STANDINGS)
    return [Tangle(links, part, many) for part, many in parts]


class Tally:
    """In how many ways the steps that are left can be done, while one after another is done."""

    def __init__(self, exchange):
        if len(exchange) > MOST_STEPS:
            raise TooMany(MOST_STEPS)
        self.aheads = ahead_bits(exchange)
        self.done_bits = 0
        self.many = 0
        self.ways = 1
        self.pieces = {}
        order = some_order(self.aheads)
        if len(order) < len(exchange):
            # There is a ring.
            self.ways = 0
        else:
            for piece in pieces_of(exchange, self.aheads, order):
                self.many += piece.many
                self.ways = self.ways * comb(self.many, piece.many) * piece.ways
                for number in numbers_of(piece.rest):
                    self.pieces[number] = piece

    def free(self):
        """The ascending list of the steps that may be done next."""
        return free_steps(self.aheads, self.done_bits)

    def ways_behind(self, number):
        """In how many ways the others can be done when this step is done next."""
        piece = self.pieces[number]
        return self.ways * piece.many * piece.orders_without(number) // (self.many * piece.ways)

    def do(self, number):
        """Does this step next."""
        self.ways = self.ways_behind(number)
        self.pieces[number].leave(number)
        self.many -= 1
        self.done_bits |= 1 << number


def count(exchange):
    """The number of orders."""
    return Tally(exchange).ways


def nth(exchange, k):
    """The order that has just k orders ahead of it."""
    tally = Tally(exchange)
    if not is_integer(k) or not 0 <= k < tally.ways:
        raise NoOrder(k)
    left = k
    row = []
    while len(row) < len(exchange):
        for number in tally.free():
            many = tally.ways_behind(number)
            if left < many:
                break
            left -= many
        tally.do(number)
        row.append(number)
    return Plan(exchange, row)


def check_order(plan, aheads):
    """Refuses a plan that is no order."""
    done = 0
    for at, number in enumerate(plan.numbers):
        if aheads[number] & done != aheads[number]:
            raise BadPlan(at)
        done |= 1 << number
    if not plan.is_whole:
        raise BadPlan(len(plan))


def rank(plan):
    """The number of orders ahead of this one."""
    tally = Tally(plan.exchange)
    check_order(plan, tally.aheads)
    total = 0
    for number in plan.numbers:
        for other in tally.free():
            if other < number:
                total += tally.ways_behind(other)
        tally.do(number)
    return total
