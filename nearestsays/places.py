"""Places of the tree of names, and the checks of names, texts and integers that other modules share."""

from nearestsays.errors import BadName, BadPlace, TooMany

LONGEST_NAME = 8


def is_integer(value):
    """Whether any value is an integer; True and False are none."""
    return isinstance(value, int) and not isinstance(value, bool)


def is_name(value):
    """Whether any value is a name."""
    if not isinstance(value, str) or not 0 < len(value) <= LONGEST_NAME:
        return False
    return value.isascii() and value.isalnum() and value == value.lower()


def is_place_text(value):
    """Whether any value is the text of a place."""
    if not isinstance(value, str) or not value.startswith("/"):
        return False
    if value == "/":
        return True
    names = value[1:].split("/")
    return len(names) <= Place.MOST and all([is_name(name) for name in names])


def is_place(value):
    """Whether any value is a Place or the text of one."""
    return isinstance(value, Place) or is_place_text(value)


def text_of(value):
    """The text of the place that any value tells."""
    if isinstance(value, Place):
        return value.text
    if not is_place_text(value):
        raise BadPlace(value)
    return value


def upward(text):
    """The texts of a place and of all places above it, the nearest first."""
    spots = [text]
    while spots[-1] != "/":
        spots.append(spots[-1].rpartition("/")[0] or "/")
    return spots


class Place:
    """A place: the names that lead to it from the root. It never changes."""

    MOST = 8

    def __init__(self, *names):
        for name in names:
            if not is_name(name):
                raise BadName(name)
        if len(names) > self.MOST:
            raise TooMany(self.MOST)
        self._names = names

    @classmethod
    def read(cls, text):
        """The place with this text."""
        if not is_place_text(text):
            raise BadPlace(text)
        names = [name for name in text.split("/") if name]
        return cls(*names)

    @staticmethod
    def of(value):
        """The value itself if it is a Place, or the place with this text."""
        if isinstance(value, Place):
            return value
        return Place.read(value)

    @property
    def names(self):
        return self._names

    @property
    def text(self):
        return "/" + "/".join(self._names)

    @property
    def up(self):
        """The place above it with one name less; None for the root."""
        if not self._names:
            return None
        return self.head(len(self._names) - 1)

    def __add__(self, other):
        return Place(*self._names, other)

    def head(self, k):
        """The place of the first k names."""
        if not is_integer(k) or not 0 <= k <= len(self._names):
            raise BadPlace(k)
        names = self._names[:k]
        return Place(*names)

    def __contains__(self, x):
        if not is_place(x):
            return False
        return Place.of(x).names[:len(self._names)] == self._names

    def __and__(self, other):
        if not isinstance(other, Place):
            raise BadPlace(other)
        shared = 0
        for mine, theirs in zip(self._names, other.names):
            if mine != theirs:
                break
            shared += 1
        return self.head(shared)

    def __len__(self):
        return len(self._names)

    def __bool__(self):
        return bool(self._names)

    def __str__(self):
        return f"{self.text}"

    def __repr__(self):
        return f"Place({self.text!r})"

    def __eq__(self, other):
        return isinstance(other, Place) and self._names == other._names

    def is_ahead(self, b):
        """Whether this place comes ahead of b in the order of places."""
        if not isinstance(b, Place):
            raise BadPlace(b)
        return self._names < b.names
