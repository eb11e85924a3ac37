"""Room: how many rows a table has at most while it is changed."""

from heapq import heappop, heappush

from nearestsays.counting import MOST_STANDINGS, closed, has_too_many, links_of, numbers_of, some_order
from nearestsays.errors import Divided, TooMany
from nearestsays.orders import ahead_bits, bits_of, check_ringless, free_steps

# Sets of steps are written as bits here: the bit of a step is 1 << number.
#
# Puts and edits may wait until a take needs them, and the others until the end:
# no moment has more rows for that. So ways are sought from take to take, each
# one done with what it needs. A core is a standing of takes and what they need.

GROWTH = {"put": 1, "take": -1, "edit": 0}

# For so few standings it does not pay to seek those to which strict plans lead.
FEW = 200


def check_undivided(exchange):
    """Refuses an exchange with divided places."""
    if exchange.divided:
        raise Divided(exchange.divided[0])


def growths(exchange):
    """By how many rows the table grows with each step."""
    return [GROWTH[step.word] for step in exchange.steps]


def room(plan):
    """The greatest number of rows that a table has at a moment of the plan."""
    exchange = plan.exchange
    check_undivided(exchange)
    growth = growths(exchange)
    many = most = len(exchange.first_copy())
    for number in plan.numbers:
        many += growth[number]
        most = max(most, many)
    return most


class Heights:
    """How many rows stand at the strict standings of an exchange without a ring, and what its takes need."""

    def __init__(self, exchange):
        self.aheads = ahead_bits(exchange)
        self.order = some_order(self.aheads)
        self.closures = closed(self.aheads, self.order)
        self.growth = growths(exchange)
        self.first = len(exchange.first_copy())
        self.last = self.first + sum(self.growth)
        # In this order each take comes behind those that it needs.
        self.takes = [number for number in self.order if self.growth[number] < 0]
        self.take_bits = bits_of(self.takes)
        self.put_bits = bits_of([number for number in self.order if self.growth[number] > 0])
        self.all_bits = bits_of(self.order)


def many_in(bits):
    """How many steps these are."""
    return f"{bits:b}".count("1")


def counted_heights(exchange):
    """The heights of an exchange, if it is not refused."""
    check_undivided(exchange)
    check_ringless(exchange)
    heights = Heights(exchange)
    if has_too_many(links_of(heights.aheads), heights.order):
        raise TooMany(MOST_STANDINGS)
    return heights


def needs_next(heights, done):
    """For each take that needs no other one first: the bits of it and what it needs, and how many of these are puts."""
    found = []
    for number in heights.takes:
        need = heights.closures[number] & ~done
        if need & heights.take_bits == 1 << number:
            found.append((need, many_in(need & heights.put_bits)))
    return found


def with_free_takes(heights, done, many):
    """A standing with all takes that need no put any more, and how many rows stand there."""
    for number in heights.takes:
        need = heights.closures[number] & ~done
        if need and not need & heights.put_bits:
            done |= need
            many -= 1
    return (done, many)


def least_way(heights, start, many, most):
    """The least room from a standing with so many rows to the end, and a way with it; None if it is more than most.

    The way is a tuple of standings, from this one to the whole one. From each to
    the next one the steps can be done in the order of the heights.
    """
    done, low = with_free_takes(heights, start, many)
    queue = [(max(many, heights.last), done, low, (start, done))]
    known = {}
    while True:
        so_far, done, many, way = heappop(queue)
        if so_far > most:
            return None
        if done & heights.take_bits == heights.take_bits:
            return (so_far, (*way, heights.all_bits))
        if done not in known:
            known[done] = True
            if many <= low:
                # Nothing between the last such standing and this one has fewer
                # rows: it would have come first, as it needs no more room and
                # its bits are a smaller number. So each way from there can do
                # all this first, without more room: no other one is needed.
                low = many
                queue = []
            for need, more in needs_next(heights, done):
                peak = many + more
                following, fewer = with_free_takes(heights, done | need, peak - 1)
                heappush(queue, (max(so_far, peak), following, fewer, (*way, following)))


def row_along(heights, way):
    """The numbers of the steps along a way."""
    row = []
    for done, following in zip(way, way[1:]):
        fresh = following & ~done
        row.extend([number for number in heights.order if fresh >> number & 1])
    return row


def may_come_early(heights, left, many, most, number):
    """Whether the others that are left can do with this put ahead of them, where so many rows stand."""
    for other in left:
        if many >= most:
            return False
        if other == number:
            return True
        many += heights.growth[other]
    return True


def left_behind(heights, done, many, most, left, number):
    """The list of the steps left behind this one, in an order with at most this room; None if there is none.

    left are those that are left ahead of it, at a standing with so many rows, in such an order.
    """
    if heights.growth[number] <= 0 or may_come_early(heights, left, many, most, number):
        return [other for other in left if other != number]
    found = least_way(heights, done | 1 << number, many + 1, most)
    return None if found is None else row_along(heights, found[1])


def first_row(heights, most, way):
    """The numbers of the first order whose room is at most this; the way is one with such a room."""
    row = []
    done = refused = 0
    many = heights.first
    left = row_along(heights, way)
    while left:
        # A put that is refused stays so while fewer than most rows stand: could it
        # come now, it could have come then, ahead of all that came since.
        if many == most:
            refused = 0
        held = heights.put_bits if many == most else refused
        fit = [number for number in free_steps(heights.aheads, done) if not held >> number & 1]
        for number in fit:
            following = left_behind(heights, done, many, most, left, number)
            if following is not None:
                break
            refused |= 1 << number
        left = following
        row.append(number)
        done |= 1 << number
        many += heights.growth[number]
    return tuple(row)


def least_room(exchange):
    """The least room of an order, and the numbers of the first order with this room."""
    heights = counted_heights(exchange)
    most, way = least_way(heights, 0, heights.first, heights.first + len(exchange))
    return (most, first_row(heights, most, way))


def within(exchange, most):
    """The numbers of the first order whose room is at most this; None if there is none."""
    heights = counted_heights(exchange)
    found = least_way(heights, 0, heights.first, most)
    return None if found is None else first_row(heights, most, found[1])


def cores_within(heights, most):
    """By their bits the cores to which strict plans lead whose room is at most this, and how many rows stand there."""
    found = {0: heights.first}
    left = [0]
    while left:
        core = left.pop()
        for need, puts in needs_next(heights, core):
            peak = found[core] + puts
            more = core | need
            if peak <= most and more not in found:
                found[more] = peak - 1
                left.append(more)
    return found


def further_steps(heights, core):
    """The puts and edits that need no take that is not in the core, each one behind those that it needs."""
    takes_left = heights.take_bits & ~core
    free = [number for number in heights.order if not heights.closures[number] & takes_left]
    return [number for number in free if not core >> number & 1]


def reached_sums(heights, most, signs):
    """Yields lists of the strict standings to which strict plans lead whose room is at most this, a list for each core.

    The first table has no more rows. A standing is told by the sum of the signs
    of its steps; the lowest bits of a sign are the bit of its step.
    """
    # Above the bits of these sums stands how many rows there are.
    top = 2 * len(signs) + 6
    low_bits = (1 << top) - 1
    cores = cores_within(heights, most)
    for core in cores:
        # The way to a standing can do without a put or an edit that nothing else
        # in it needs: so behind a core only the rows that stand then count.
        found = [(cores[core] << top) + sum([signs[number] for number in numbers_of(core)])]
        for number in further_steps(heights, core):
            ahead = heights.aheads[number]
            sign = signs[number] + (heights.growth[number] << top)
            limit = (most - heights.growth[number] + 1) << top
            more = [part + sign for part in found if part < limit and part & ahead == ahead]
            found.extend(more)
        yield [part & low_bits for part in found]


def ordered_signs(many):
    """For each step a sign; the sums of signs ascend as the standings do, by their length, then as tuples."""
    longer = 1 << many
    # The first step on which two standings of one length differ takes away more
    # than all later ones together.
    return [(longer - (longer >> number + 1)) << many | 1 << number for number in range(many)]


def standings_of(sums, many):
    """The list of the standings, as tuples, whose bits are the lowest ones of these sums."""
    found = [()] * len(sums)
    # For few standings wide tables would have more tuples than are asked.
    width = max(len(sums).bit_length() - 2, 1)
    for start in range(0, many, width):
        # The tuples of all sets of so many steps, by their bits.
        table = [()]
        for number in range(start, min(start + width, many)):
            table = table + [(*part, number) for part in table]
        last = len(table) - 1
        found = [standing + table[bits >> start & last] for standing, bits in zip(found, sums)]
    return found


def barred(exchange, most):
    """None if an order has at most this room; otherwise the standings to which plans with at most this room lead."""
    heights = counted_heights(exchange)
    if least_way(heights, 0, heights.first, most) is not None:
        return None
    if heights.first > most:
        return ()
    sums = []
    signs = ordered_signs(len(exchange))
    for row in reached_sums(heights, most, signs):
        sums.extend(row)
    return tuple(standings_of(sorted(sums), len(exchange)))


def shown_bits(exchange, thing):
    """By their bits the standings of a list or tuple of unlike ones; None for any other value."""
    if not isinstance(thing, (list, tuple)) or not all([isinstance(value, tuple) for value in thing]):
        return None
    many = len(exchange)
    found = {}
    for value in thing:
        done = 0
        for number in value:
            # What is_number asks, without a call for each of very many.
            if not isinstance(number, int) or number is True or number is False or not 0 <= number < many:
                return None
            bit = 1 << number
            if bit <= done:
                return None
            done |= bit
        found[done] = value
    return found if len(found) == len(thing) else None


def others_shown(exchange, most, shown):
    """The bits of those shown to which no strict plan with this room leads; None if one to which one does is not."""
    heights = Heights(exchange)
    if has_too_many(links_of(heights.aheads), heights.order):
        return list(shown)
    if least_way(heights, 0, heights.first, most) is not None:
        # The whole standing is one of the rest, and it is never shown.
        return None
    signs = [1 << number for number in range(len(exchange))]
    found = {}
    for row in reached_sums(heights, most, signs):
        if not all([done in shown for done in row]):
            return None
        found.update({done: True for done in row})
    return [done for done in shown if done not in found]


def are_held(exchange, most, shown, rest):
    """Whether the rest of those shown are strict, with at most so many rows, and what comes next is shown, too."""
    aheads = ahead_bits(exchange)
    growth = growths(exchange)
    first = len(exchange.first_copy())
    steps = [(1 << number, ahead, ahead | 1 << number) for number, ahead in enumerate(aheads)]
    # Where most rows stand already no put follows.
    others = [step for step, grown in zip(steps, growth) if grown <= 0]
    for done in rest:
        need = 0
        many = first
        for number in shown[done]:
            need |= aheads[number]
            many += growth[number]
        if need & ~done or many > most:
            return False
        fit = others if many == most else steps
        if [bit for bit, ahead, both in fit if done & both == ahead and done | bit not in shown]:
            return False
    return True


def shows_barred(exchange, most, thing):
    """Whether any value is strict standings that show that no order has at most this room."""
    check_undivided(exchange)
    check_ringless(exchange)
    shown = shown_bits(exchange, thing)
    first = len(exchange.first_copy())
    if shown is None or (first <= most and 0 not in shown) or (1 << len(exchange)) - 1 in shown:
        return False
    rest = list(shown)
    if first <= most and len(rest) > FEW:
        rest = others_shown(exchange, most, shown)
    if rest is None:
        return False
    return not rest or are_held(exchange, most, shown, rest)
