"""Dividing: the fewest rows that must be changed column by column, so that there is an order."""

from nearestsays.errors import TooMany
from nearestsays.orders import bits_of
from nearestsays.places import is_integer
from nearestsays.rings import goes_round, reached_from, steps_behind

MOST_CANDIDATES = 6


def way_back(pairs):
    """The list of the sentences of a ring among such triples (spot ahead, spot behind, sentence), or None."""
    while True:
        reasons = {behind: (ahead, sentence) for ahead, behind, sentence in pairs}
        kept = [pair for pair in pairs if pair[0] in reasons]
        if len(kept) == len(pairs):
            break
        pairs = kept
    if not pairs:
        return None
    # Each spot that is left has another one ahead that is left, too: going back
    # from one to the next must come to a spot a second time.
    spots = []
    way = []
    spot = pairs[0][0]
    while spot not in spots:
        spots.append(spot)
        spot, sentence = reasons[spot]
        way.append(sentence)
    return way[spots.index(spot):][::-1]


class Net:
    """The sentences of an exchange that stand in rings, whatever candidates are divided.

    Steps keep the numbers that they have in the exchange. A division is written
    as the ascending tuple of the numbers of the candidates that are divided:
    then the sentences go from cell to cell there. So no exchange is made anew.
    """

    def __init__(self, exchange):
        behinds = steps_behind(exchange)
        reached = [reached_from(behinds, number) for number in range(len(exchange))]
        self.steps = exchange.steps
        self.sentences = [sentence for sentence in exchange.sentences if sentence[0] in reached[sentence[1]]]
        self.numbers = [
            number
            for number, step in enumerate(exchange.steps)
            if len(step.columns) > 1 and number in reached[number]
        ]
        self.ways = []

    def places_of(self, numbers):
        """The places of these steps."""
        return tuple([self.steps[number].place for number in numbers])

    def divisions(self):
        """All divisions, those of fewer candidates first, then ascending."""
        if len(self.numbers) > MOST_CANDIDATES:
            raise TooMany(MOST_CANDIDATES)
        rows = []
        level = [()]
        while level:
            rows.extend(level)
            level = [(*row, number) for row in level for number in self.numbers if not row or row[-1] < number]
        return rows

    def ring_behind(self, division):
        """The list of the sentences of a ring that is left behind a division, or None."""
        bits = bits_of(division)
        for way, turned, twice in self.ways:
            # Divided, a step is not passed from column to column; whole, it is not passed twice.
            if not turned & bits and twice & bits == twice:
                return way
        way = way_back([
            (spot_in(division, sentence[0], sentence[2]), spot_in(division, sentence[1], sentence[2]), sentence)
            for sentence in self.sentences
        ])
        if way is not None:
            self.ways.append((way, turned_bits(way), twice_bits(way)))
        return way

    def number_behind(self, division, number, column):
        """The number that a step has behind a division, the one of this column where it is divided."""
        more = sum([len(self.steps[other].columns) - 1 for other in division if other < number])
        at = self.steps[number].columns.index(column) if number in division else 0
        return number + more + at

    def ring_told(self, division, way):
        """A ring of these sentences as it is told of the exchange behind a division."""
        return tuple([
            (self.number_behind(division, ahead, column), self.number_behind(division, behind, column), column, word)
            for ahead, behind, column, word in way
        ])

    def steps_behind_it(self, division):
        """For each number behind a division the pair of the step here, and of its column where it is divided."""
        return [
            (number, column)
            for number, step in enumerate(self.steps)
            for column in (step.columns if number in division else (None,))
        ]


def spot_in(division, number, column):
    """What a sentence leads to or from in a column: the step, or one cell of it where it is divided."""
    return (number, column if number in division else None)


def turned_bits(way):
    """The bits of the steps to which the ring comes in one column and which it leaves in another one."""
    found = 0
    for sentence, following in zip(way, way[1:] + way[:1]):
        if sentence[2] != following[2]:
            found |= 1 << sentence[1]
    return found


def twice_bits(way):
    """The bits of the steps to which the ring comes more than once."""
    seen = twice = 0
    for sentence in way:
        bit = 1 << sentence[1]
        twice |= seen & bit
        seen |= bit
    return twice


def candidates(exchange):
    """The ascending tuple of the places whose step changes two columns or more and stands in some ring."""
    net = Net(exchange)
    return net.places_of(net.numbers)


def fewest_divided(exchange):
    """The first of the shortest tuples of candidates behind which no ring is left, and a ring for each one ahead."""
    net = Net(exchange)
    reasons = []
    for division in net.divisions():
        way = net.ring_behind(division)
        if way is None:
            break
        reasons.append((net.places_of(division), net.ring_told(division, way)))
    return (net.places_of(division), reasons)


def is_told_sentence(net, steps, thing):
    """Whether any value is a sentence of a ring behind a division; steps as `steps_behind_it` tells."""
    if not isinstance(thing, tuple) or len(thing) != 4:
        return False
    ahead, behind, column, word = thing
    for number in (ahead, behind):
        if not is_integer(number) or not 0 <= number < len(steps) or steps[number][1] not in (None, column):
            return False
    return (steps[ahead][0], steps[behind][0], column, word) in net.sentences


def is_ring_behind(net, division, thing):
    """Whether any value is a ring of the exchange behind a division."""
    if not isinstance(thing, tuple) or not 2 <= len(thing) <= len(net.sentences):
        return False
    steps = net.steps_behind_it(division)
    return all([is_told_sentence(net, steps, part) for part in thing]) and goes_round(thing)


# Below, == and `in` ask for the kinds, too: a tuple equals no list, a text no Place.
def is_reason(net, division, value):
    """Whether any value is the pair of the places of a division and a ring that is left behind it."""
    if not isinstance(value, tuple) or len(value) != 2 or value[0] != net.places_of(division):
        return False
    return is_ring_behind(net, division, value[1])


def shows_divided(exchange, places, reasons):
    """Whether any values are the fewest places, and the rings that show that there are no fewer ones."""
    net = Net(exchange)
    divisions = net.divisions()
    rows = [net.places_of(division) for division in divisions]
    if places not in rows or not isinstance(reasons, list):
        return False
    at = rows.index(places)
    if len(reasons) != at or net.ring_behind(divisions[at]) is not None:
        return False
    return all([is_reason(net, division, reason) for division, reason in zip(divisions, reasons)])
