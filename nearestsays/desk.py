"""A desk at which a live table is kept, changed and asked by lines of words."""

from nearestsays.counting import count
from nearestsays.errors import BadLine, NoExchange, TableError, Underway
from nearestsays.judge import judge
from nearestsays.least import least
from nearestsays.live import RULES, Live
from nearestsays.orders import ready
from nearestsays.places import is_name, is_place_text
from nearestsays.plans import Plan
from nearestsays.room import least_room
from nearestsays.rounds import rounds
from nearestsays.standings import may_come
from nearestsays.texts import read_table, show_table

DIGITS = "0123456789"
LONGEST_NUMBER = 4

WITH_TEXT = ("table", "begin")

# By the first word of a line the kinds of the words that must stand behind it.
NEEDED = {
    "show": (), "tell": ("place", "name"), "set": ("place", "name", "name"), "drop": ("place",), "least": (),
    "steps": (), "sentences": (), "ready": (), "do": ("number",), "back": (), "finish": (), "rule": ("rule",),
    "judge": (), "count": (), "room": (), "rounds": (),
}

# The kinds of those that may stand behind these, as often as one likes.
REPEATED = {"set": ("name", "name"), "judge": ("number",)}


def is_number_word(word):
    """Whether a word is a number of a few digits, without a leading zero."""
    if not 0 < len(word) <= LONGEST_NUMBER or not all([sign in DIGITS for sign in word]):
        return False
    return word == "0" or word[0] != "0"


def is_of_kind(word, kind):
    """Whether a word is of a kind that a form names."""
    if kind == "place":
        return is_place_text(word)
    if kind == "name":
        return is_name(word)
    if kind == "number":
        return is_number_word(word)
    return word in RULES


def kinds_wanted(words):
    """The kinds of the words behind the first one, as many as stand there at least."""
    kinds = list(NEEDED[words[0]])
    more = REPEATED.get(words[0], ())
    while more and len(kinds) < len(words) - 1:
        kinds.extend(more)
    return kinds


def wrong_word(words):
    """The first index at which a word of a line cannot stand, or is missing; None if the line has one of the forms."""
    if words[0] in WITH_TEXT:
        return 1 if len(words) == 1 else None
    if words[0] not in NEEDED:
        return 0
    kinds = kinds_wanted(words)
    for at in range(1, len(words)):
        if at > len(kinds) or not is_of_kind(words[at], kinds[at - 1]):
            return at
        if words[0] == "set" and at % 2 == 0 and words[at] in words[2:at:2]:
            return at
    return len(words) if len(words) <= len(kinds) else None


def under_way(desk):
    """The exchange under way; refuses if there is none."""
    exchange = desk.live.exchange
    if exchange is None:
        raise NoExchange()
    return exchange


def check_idle(desk):
    """Refuses while an exchange is under way."""
    if desk.live.exchange is not None:
        raise Underway()


def told_text(table):
    """A table as it is written in a line."""
    return show_table(table).replace("\n", " ; ")


def read_words(words):
    """The table that is written behind the first word of a line."""
    # A newline is a part of a word here; no such word can stand, nor one with this sign.
    text = " ".join(words[1:]).replace("\n", "?")
    return read_table(text.replace(" ; ", "\n"))


def joined(texts, between):
    """The texts with what comes between them, `none` without texts."""
    return between.join(texts) if texts else "none"


def row_of(numbers):
    """The numbers with spaces between."""
    return joined([str(number) for number in numbers], " ")


def say_table(desk, words):
    """Forgets what stands and begins with a new table."""
    desk.live = Live(read_words(words))
    return "ok"


def say_show(desk, words):
    return told_text(desk.live.table_copy())


def say_tell(desk, words):
    heard = desk.live.told(words[1], words[2])[0]
    return "-" if heard is None else heard


def change_to(desk, table):
    """Lets another table stand, by the same rule."""
    desk.live = Live(table, rule=desk.live.rule)
    return "ok"


def say_set(desk, words):
    check_idle(desk)
    table = desk.live.table_copy()
    table[words[1]] = {words[at]: words[at + 1] for at in range(2, len(words), 2)}
    return change_to(desk, table)


def say_drop(desk, words):
    check_idle(desk)
    table = desk.live.table_copy()
    table.take(words[1])
    return change_to(desk, table)


def say_least(desk, words):
    return told_text(least(desk.live.table_copy()))


def say_begin(desk, words):
    # Ahead of the text, which may be none of a table.
    check_idle(desk)
    exchange = desk.live.begin(read_words(words))
    return str(len(exchange))


def say_steps(desk, words):
    steps = under_way(desk).steps
    return joined([f"{number} {step}" for number, step in enumerate(steps)], ", ")


def say_sentences(desk, words):
    sentences = under_way(desk).sentences
    return joined([f"{ahead} {behind} {column} {word}" for ahead, behind, column, word in sentences], ", ")


def say_ready(desk, words):
    exchange = under_way(desk)
    done = desk.live.done
    if desk.live.rule == "strict":
        return row_of(ready(Plan(exchange, done)))
    return row_of(may_come(exchange, tuple(sorted(done))))


def say_do(desk, words):
    return str(desk.live.step(int(words[1])))


def say_back(desk, words):
    return str(desk.live.back())


def say_finish(desk, words):
    return row_of(desk.live.finish())


def say_rule(desk, words):
    desk.live.set_rule(words[1])
    return "ok"


def say_judge(desk, words):
    numbers = [int(word) for word in words[1:]]
    verdict = judge(Plan(under_way(desk), numbers))
    if verdict.word == "strict":
        return "strict"
    return f"broken {verdict.moment} {verdict.place} {verdict.column}"


def say_count(desk, words):
    return str(count(under_way(desk)))


def say_room(desk, words):
    return str(least_room(under_way(desk))[0])


def say_rounds(desk, words):
    return joined([row_of(row) for row in rounds(under_way(desk))], " / ")


ANSWERS = {
    "table": say_table, "show": say_show, "tell": say_tell, "set": say_set, "drop": say_drop, "least": say_least,
    "begin": say_begin, "steps": say_steps, "sentences": say_sentences, "ready": say_ready, "do": say_do,
    "back": say_back, "finish": say_finish, "rule": say_rule, "judge": say_judge, "count": say_count,
    "room": say_room, "rounds": say_rounds,
}


class Desk:
    """A desk; it has no table at first."""

    def __init__(self):
        self.live = None

    def say(self, line):
        """Carries out a line and returns the answer."""
        if not isinstance(line, str):
            raise BadLine(0)
        words = line.split(" ")
        at = wrong_word(words)
        if at is not None:
            raise BadLine(at)
        if self.live is None and words[0] != "table":
            return "no table"
        action = ANSWERS[words[0]]
        try:
            return action(self, words)
        except TableError as e:
            return "refused " + e.__class__.__name__

    def run(self, *lines):
        """Carries out the lines one after another and returns the list of the answers."""
        return [self.say(line) for line in lines]

    def table_copy(self):
        """A copy of the table that stands, or None."""
        return None if self.live is None else self.live.table_copy()
