"""Dividing: the fewest rows that must be changed column by column, so that there is an order."""

from nearestsays.errors import TooMany
from nearestsays.rings import is_ring, ring, steps_behind

MOST_CANDIDATES = 6


def reached_from(behinds, number):
    """The list of the steps to which sentences lead from this one, one sentence at least."""
    found = {other: True for other in behinds[number]}
    row = list(found)
    while row:
        step = row.pop()
        for other in behinds[step]:
            if other not in found:
                found[other] = True
                row.append(other)
    return list(found)


def steps_in_rings(exchange):
    """The ascending list of the steps that stand in some ring."""
    behinds = steps_behind(exchange)
    return [number for number in range(len(exchange)) if number in reached_from(behinds, number)]


def candidates(exchange):
    """The ascending tuple of the places whose step changes two columns or more and stands in some ring."""
    steps = [exchange.steps[number] for number in steps_in_rings(exchange)]
    return tuple([step.place for step in steps if len(step.columns) > 1])


def choices(exchange):
    """All ascending tuples of candidates, those with fewer places first, then in the order of places."""
    places = candidates(exchange)
    if len(places) > MOST_CANDIDATES:
        raise TooMany(MOST_CANDIDATES)
    rows = []
    level = [()]
    while level:
        rows.extend(level)
        level = [(*row, place) for row in level for place in places if not row or row[-1] < place]
    return rows


def ring_behind(exchange, places):
    """A ring of the exchange in which these places are divided, too, or None."""
    return ring(exchange.divide(*places))


def fewest_divided(exchange):
    """The first of the shortest tuples of candidates behind which no ring is left, and a ring for each one ahead."""
    reasons = []
    for places in choices(exchange):
        found = ring_behind(exchange, places)
        if found is None:
            break
        reasons.append((places, found))
    return (places, reasons)


# Below, == and `in` ask for the kinds, too: a tuple equals no list, a text no Place.
def is_reason(exchange, value, places):
    """Whether any value is the pair of these places and a ring of the exchange in which they are divided, too."""
    if not isinstance(value, tuple) or len(value) != 2 or value[0] != places:
        return False
    return is_ring(exchange.divide(*places), value[1])


def shows_divided(exchange, places, reasons):
    """Whether any values are the fewest places, and the rings that show that there are no fewer ones."""
    rows = choices(exchange)
    if places not in rows or not isinstance(reasons, list):
        return False
    ahead = rows[:rows.index(places)]
    if len(reasons) != len(ahead) or ring_behind(exchange, places) is not None:
        return False
    return all([is_reason(exchange, reason, row) for reason, row in zip(reasons, ahead)])
