"""Two hands: what becomes of two exchanges that change one table at the same time."""

from nearestsays.errors import BadPlan, Clash
from nearestsays.exchange import Exchange
from nearestsays.places import is_integer
from nearestsays.plans import Plan
from nearestsays.tables import Table, cells_at, check_like


def changed_places(exchange):
    """The places of the steps, as the keys of a dict."""
    return {step.place: True for step in exchange.steps}


def check_together(one, other):
    """Refuses two exchanges that cannot go on together."""
    first, twin = one.first_copy(), other.first_copy()
    check_like(first, twin)
    for place in sorted(set(first.places + twin.places)):
        if cells_at(first, place) != cells_at(twin, place):
            raise Clash(place)
    theirs = changed_places(other)
    for step in one.steps:
        if step.place in theirs:
            raise Clash(step.place)


def together(one, other):
    """The exchange with the changes of two exchanges."""
    check_together(one, other)
    mine, theirs = one.second_copy(), other.second_copy()
    places = changed_places(other)
    rows = {}
    for place in sorted(set(one.places + other.places)):
        cells = cells_at(theirs if place in places else mine, place)
        if cells:
            rows[place] = cells
    second = Table(one.columns, rows)
    return Exchange(one.first_copy(), second, divided=one.divided + other.divided)


def joining(one, other):
    """The list of the sentences of both together that have a step of each."""
    whole = together(one, other)
    mine = changed_places(one)
    sides = [step.place in mine for step in whole.steps]
    return [sentence for sentence in whole.sentences if sides[sentence[0]] != sides[sentence[1]]]


def are_apart(one, other):
    """Whether no sentence of both together has a step of each."""
    return not joining(one, other)


def numbers_in(whole, plan):
    """The numbers that the steps of a plan have in the exchange of both hands."""
    steps = [plan.exchange.steps[number] for number in plan.numbers]
    return [whole.number_of(step.place, step.columns[0]) for step in steps]


def mixed(one, other, turns):
    """The plan that takes the next step of one plan for each 0 of turns, any value, and of the other for each 1."""
    whole = together(one.exchange, other.exchange)
    if not isinstance(turns, (list, tuple)):
        raise BadPlan(None)
    rows = (numbers_in(whole, one), numbers_in(whole, other))
    spots = [0, 0]
    numbers = []
    for at, turn in enumerate(turns):
        if not is_integer(turn) or turn not in (0, 1) or spots[turn] == len(rows[turn]):
            raise BadPlan(at)
        numbers.append(rows[turn][spots[turn]])
        spots[turn] += 1
    return Plan(whole, numbers)
