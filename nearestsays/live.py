"""Live tables: a table that is asked at any time while an exchange changes it step by step."""

from nearestsays.errors import BadRule, NoExchange, NoStep, ThirdAnswer, TooEarly, Underway
from nearestsays.exchange import Exchange
from nearestsays.orders import least_order
from nearestsays.plans import Plan, is_number
from nearestsays.rings import steps_ahead
from nearestsays.standings import third_at

RULES = ("right", "strict")


def check_rule(value):
    """Refuses any value that is no rule."""
    if value not in RULES:
        raise BadRule(value)


def check_strict(exchange, done, number):
    """Refuses a step of which one that must come ahead is not done."""
    missing = [other for other in steps_ahead(exchange)[number] if other not in done]
    if missing:
        raise TooEarly(number, min(missing))


def check_right(exchange, done):
    """Refuses steps with which a place is told a third answer."""
    found = third_at(exchange, tuple(sorted(done)))
    if found is not None:
        place, column, heard = found
        # What is strict is right, so here a sentence is broken.
        ahead, behind = first_broken(exchange, done)
        raise ThirdAnswer(place, column, heard) from TooEarly(behind, ahead)


def first_broken(exchange, done):
    """The two steps of the first sentence whose later step is done and whose earlier one is not."""
    pairs = [sentence[:2] for sentence in exchange.sentences]
    return [pair for pair in pairs if pair[1] in done and pair[0] not in done][0]


class Live:
    """A table that stands, and at most one exchange under way."""

    # The state is never changed, only replaced as a whole, so that a trial may
    # keep the one that stands: the table, the exchange or None, the numbers of
    # the steps that are done, the rule and the log.
    def __init__(self, table, *, rule="right"):
        check_rule(rule)
        self._state = (table.copy(), None, (), rule, ())

    def __call__(self, place):
        return self.told(place)

    def told(self, place, *columns):
        """What the place is told now in these columns, in all of them if none is passed."""
        table = self._state[0]
        return table.told(place, *columns)

    def table_copy(self):
        """A copy of the table that stands."""
        table = self._state[0]
        return table.copy()

    @property
    def exchange(self):
        """The exchange under way, or None."""
        return self._state[1]

    @property
    def done(self):
        """The tuple of the numbers of the steps that are done, in this order."""
        return self._state[2]

    @property
    def rule(self):
        """What a step must keep: `right` or `strict`."""
        return self._state[3]

    @rule.setter
    def rule(self, value):
        self.set_rule(value)

    @property
    def log(self):
        """The tuple of texts of what was done."""
        return self._state[4]

    def set_rule(self, value):
        """Sets the rule, while no exchange is under way."""
        check_rule(value)
        self._check_idle()
        table, exchange, done, _, log = self._state
        self._state = (table, exchange, done, value, log)

    def _check_idle(self):
        if self.exchange is not None:
            raise Underway()

    def _under_way(self):
        if self.exchange is None:
            raise NoExchange()
        return self.exchange

    def _go_on(self, table, exchange, done, word):
        """Replaces the state; an exchange of which all steps are done is over."""
        rule, log = self._state[3:]
        if len(done) == len(exchange):
            self._state = (table, None, (), rule, (*log, word, "end"))
        else:
            self._state = (table, exchange, done, rule, (*log, word))

    def begin(self, second, *, divided=()):
        """Begins the exchange from the table that stands to this one and returns it."""
        self._check_idle()
        return self._begun(second, divided, "begin")

    def turn_to(self, third, *, divided=()):
        """Forgets the exchange under way and begins the one from the table that stands to this one; returns it."""
        self._under_way()
        return self._begun(third, divided, "turn")

    def _begun(self, wanted, divided, word):
        table = self._state[0]
        exchange = Exchange(table, wanted, divided=divided)
        self._go_on(table, exchange, (), word)
        return exchange

    def step(self, number):
        """Does a step and returns how many are left."""
        exchange = self._under_way()
        if not is_number(exchange, number) or number in self.done:
            raise NoStep(number)
        if self.rule == "strict":
            check_strict(exchange, self.done, number)
        else:
            check_right(exchange, (*self.done, number))
        many = len(exchange) - len(self.done) - 1
        self._do(number)
        return many

    def _do(self, number):
        table, exchange, done = self._state[:3]
        step = exchange.steps[number]
        self._go_on(step.on(table), exchange, (*done, number), f"step {number}")

    def back(self):
        """Takes the last step back and returns its number."""
        exchange = self._under_way()
        if not self.done:
            raise NoStep(None)
        number = self.done[-1]
        way_back = ~exchange.steps[number]
        self._go_on(way_back.on(self._state[0]), exchange, self.done[:-1], f"back {number}")
        return number

    def finish(self):
        """Does the steps that are left, in their least order, and returns their numbers."""
        exchange = self._under_way()
        plan = Plan(exchange, self.done)
        # What is left is an exchange of its own, and a ring of it is told with
        # its numbers; only the steps that are done are told with those of the
        # exchange under way. They keep their order, so the numbers only move up.
        order = least_order(plan.left())
        numbers = [number for number in range(len(exchange)) if number not in self.done]
        row = tuple([numbers[number] for number in order.numbers])
        for number in row:
            self._do(number)
        return row

    def exchanged(self, second, deed):
        """Begins an exchange, calls deed with the live table, finishes what is left; returns what deed returned."""
        with Attempt(self):
            self.begin(second)
            answer = deed(self)
            if self.exchange is not None:
                self.finish()
        return answer

    def trial(self):
        """A block behind which all is as it was before."""
        return Trial(self)

    def tried(self, deed):
        """Calls deed with the live table in such a block and returns what it returns."""
        with self.trial() as going:
            return deed(going)


class Trial:
    """The block that `trial` of a live table gives; each block is one of its own."""

    def __init__(self, live):
        self.live = live
        self.kept = None

    def __enter__(self):
        self.kept = self.live._state
        return self.live

    def __exit__(self, kind, value, trace):
        live = self.live
        live._state = self.kept


class Attempt(Trial):
    """A block that leaves things as they were only if it is left by an error."""

    def __exit__(self, kind, value, trace):
        live = self.live
        if kind is not None:
            live._state = self.kept
