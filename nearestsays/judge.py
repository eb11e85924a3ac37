"""Judging plans: the first broken sentence, the first third answer, and papers that show what was found."""

from nearestsays.exchange import UPPER_AHEAD
from nearestsays.places import is_integer, is_place_text, upward
from nearestsays.plans import Plan, first_third, is_kept, moments_of, wrong_at


def lower_number(sentence):
    """The number of the step of the lower cell of a sentence."""
    ahead, behind, _, word = sentence
    return behind if word in UPPER_AHEAD else ahead


def broken(plan):
    """The first broken sentence, as (moment, place, column, sentence); None if the plan is strict."""
    exchange = plan.exchange
    moments = moments_of(plan.numbers)
    found = None
    for sentence in exchange.sentences:
        if is_kept(sentence, moments):
            continue
        moment = moments[sentence[1]] + 1
        if found is None or moment < found[0]:
            step = exchange.steps[lower_number(sentence)]
            found = (moment, step.place, sentence[2], sentence)
    return found


def third(plan):
    """The first third answer, as (moment, place, column, heard); None if the plan is right."""
    return first_third(plan.exchange, plan.numbers)


def cell_heard(exchange, done, place, column):
    """The cell that the place hears when just these steps are done: (place, table), or None."""
    for spot in upward(place):
        kind = exchange.kind(spot, column)
        is_done = exchange.number_of(spot, column) in done
        if kind == "kept":
            return (spot, "both")
        if kind in ("old", "turned") and not is_done:
            return (spot, "first")
        if kind in ("new", "turned") and is_done:
            return (spot, "second")
    return None


def spots_of(plan):
    """A pair for each sentence: the indexes of its earlier and its later step in the plan, None where it is not."""
    moments = moments_of(plan.numbers)
    return tuple([
        (moments.get(sentence[0]), moments.get(sentence[1]))
        for sentence in plan.exchange.sentences
    ])


class Verdict:
    """What was found about a plan. Verdicts are made by `judge`."""

    def __init__(self, plan):
        self.plan = plan
        self.word = "verdict"

    def __eq__(self, other):
        return isinstance(other, Verdict) and self.word == other.word and self.plan == other.plan

    def paper(self):
        """The tuple of the word, the numbers of the plan, and the further attributes."""
        return (self.word, self.plan.numbers)


class Strict(Verdict):
    """The plan is strict."""

    def __init__(self, plan, spots):
        self.plan = plan
        self.word = "strict"
        self.spots = spots

    def __bool__(self):
        return True

    def __eq__(self, other):
        return isinstance(other, Strict) and self.plan == other.plan and self.spots == other.spots

    def paper(self):
        """The tuple of the word, the numbers of the plan, and the spots."""
        return (self.word, self.plan.numbers, self.spots)


class Broken(Verdict):
    """The plan breaks a sentence."""

    def __init__(self, plan, moment, place, column, heard):
        self.plan = plan
        self.word = "broken"
        self.moment = moment
        self.place = place
        self.column = column
        self.heard = heard

    def __bool__(self):
        return False

    def __eq__(self, other):
        return (
            isinstance(other, Broken)
            and self.plan == other.plan
            and self.moment == other.moment
            and self.place == other.place
            and self.column == other.column
            and self.heard == other.heard
        )

    def paper(self):
        """The tuple of the word, the numbers of the plan, the moment, the place, the column and what is heard there."""
        return (self.word, self.plan.numbers, self.moment, self.place, self.column, self.heard)


def judge(plan):
    """The verdict on a plan."""
    found = broken(plan)
    if found is None:
        return Strict(plan, spots_of(plan))
    moment, place, column, _ = found
    heard = cell_heard(plan.exchange, plan.numbers[:moment], place, column)
    return Broken(plan, moment, place, column, heard)


def is_same(value, wanted):
    """Whether any value is the wanted one, also in kind; that one consists of tuples, strings, integers and None."""
    if isinstance(wanted, tuple):
        if not isinstance(value, tuple) or len(value) != len(wanted):
            return False
        return all([is_same(part, other) for part, other in zip(value, wanted)])
    # Of these kinds only integers equal values of another one: True and False.
    return value == wanted and is_integer(value) == is_integer(wanted)


def shows_strict(plan, spots):
    """Whether any value is the spots of a plan that is strict."""
    return plan.is_strict and is_same(spots, spots_of(plan))


def shows_broken(plan, moment, place, column, heard):
    """Whether, of any values, the place hears this cell at this moment, and in neither table."""
    exchange = plan.exchange
    if not is_integer(moment) or not 0 <= moment <= len(plan):
        return False
    if not is_place_text(place) or column not in exchange.columns:
        return False
    cell = cell_heard(exchange, plan.numbers[:moment], place, column)
    everything = tuple(range(len(exchange)))
    known = [cell_heard(exchange, done, place, column) for done in ((), everything)]
    return is_same(heard, cell) and cell not in known


def shows(exchange, paper):
    """Whether any value is a paper that shows what it says."""
    if not isinstance(paper, tuple) or len(paper) < 2:
        return False
    numbers = paper[1]
    if not isinstance(numbers, tuple) or wrong_at(exchange, numbers) is not None:
        return False
    plan = Plan(exchange, numbers)
    if paper[0] == "strict" and len(paper) == 3:
        return shows_strict(plan, paper[2])
    if paper[0] == "broken" and len(paper) == 6:
        moment, place, column, heard = paper[2:]
        return shows_broken(plan, moment, place, column, heard)
    return False
