"""Rings of sentences, which bar every order."""

from nearestsays.places import is_integer


def steps_ahead(exchange):
    """For each step, by its number, the list of the steps that a sentence puts ahead of it."""
    found = [[] for _ in exchange.steps]
    for sentence in exchange.sentences:
        found[sentence[1]].append(sentence[0])
    return found


def steps_behind(exchange):
    """For each step, by its number, the list of the steps that a sentence puts behind it."""
    found = [[] for _ in exchange.steps]
    for sentence in exchange.sentences:
        found[sentence[0]].append(sentence[1])
    return found


def reached_from(nexts, number):
    """The steps to which the lists of the next ones lead from this one, over one at least, as the keys of a dict."""
    found = {other: True for other in nexts[number]}
    row = list(found)
    while row:
        step = row.pop()
        for other in nexts[step]:
            if other not in found:
                found[other] = True
                row.append(other)
    return found


def stuck_steps(exchange):
    """The numbers of the steps that no order reaches: those in a ring, or behind one."""
    aheads = steps_ahead(exchange)
    left = list(range(len(aheads)))
    while True:
        held = {number: True for number in left}
        kept = [number for number in left if any([other in held for other in aheads[number]])]
        if len(kept) == len(left):
            return left
        left = kept


def ring(exchange):
    """A ring of the exchange, the same for equal exchanges; None if there is none."""
    stuck = stuck_steps(exchange)
    if not stuck:
        return None
    reasons = {}
    for sentence in exchange.sentences:
        if sentence[0] in stuck:
            reasons.setdefault(sentence[1], sentence)
    # Each step that is stuck has another one ahead that is stuck, too: going
    # back from one to the next must come to a step a second time.
    way = []
    number = stuck[0]
    while number not in way:
        way.append(number)
        number = reasons[number][0]
    turn = way[way.index(number):]
    return tuple([reasons[step] for step in turn[::-1]])


def is_sentence(exchange, thing):
    """Whether any value is a sentence of the exchange."""
    if not isinstance(thing, tuple) or len(thing) != 4:
        return False
    return is_integer(thing[0]) and is_integer(thing[1]) and thing in exchange.sentences


def goes_round(sentences):
    """Whether each one leads to the step of the next one, the last one to that of the first, and to none twice."""
    aheads = [sentence[0] for sentence in sentences]
    behinds = [sentence[1] for sentence in sentences]
    return behinds == aheads[1:] + aheads[:1] and len(set(aheads)) == len(aheads)


def is_ring(exchange, thing):
    """Whether any value is a ring of the exchange."""
    if not isinstance(thing, tuple) or not 2 <= len(thing) <= len(exchange.sentences):
        return False
    return all([is_sentence(exchange, part) for part in thing]) and goes_round(thing)
