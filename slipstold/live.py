"""A live reading: a row that grows and changes, and what a reader does in it."""

from slipstold.errors import NoPlace, NoRow
from slipstold.integers import is_integer_between
from slipstold.machines import is_token
from slipstold.readings import mends_in, through, told_in

LONGEST_READING = 200


class Saved:
    """A row as it was when a block began, and what the blocks around that one saved."""

    def __init__(self, letters, around):
        self.letters = letters
        self.around = around


class Reading:
    """A row of at most 200 tokens that a reader reads."""

    def __init__(self, reader):
        self.subject = reader
        # A tuple, never a list: a block that ends can then take back the very row with which it began.
        self.letters = ()
        self.saved = None

    @property
    def reader(self):
        """The reader that reads the row."""
        return self.subject

    def row(self):
        """The row as a tuple."""
        return self.letters

    def told(self):
        """The sorted list of the places where an error is told."""
        return told_in(self.subject, self.letters)

    def mends(self):
        """The number of all mends, the end's included."""
        return mends_in(self.subject, self.letters)

    def arrived(self):
        """The configuration behind the last token."""
        return through(self.subject, self.letters)[2]

    def drop_at(self, k):
        """Removes the token at the index and returns it."""
        check_place(self.letters, k)
        token = self.letters[k]
        self.letters = self.letters[:k] + self.letters[k + 1:]
        return token

    def feed(self, tokens):
        """Appends the tokens one by one as they are asked for; yields their indexes and 1 or 0 for told or not."""
        check_tokens(tokens)
        for token in tokens:
            self.letters = lengthened(self.subject, self.letters, token)
            place = len(self.letters) - 1
            yield (place, int(place in told_in(self.subject, self.letters)))

    def trial(self, tokens):
        """What told() would return if all these tokens were appended."""
        check_tokens(tokens)
        letters = self.letters
        for token in tokens:
            letters = lengthened(self.subject, letters, token)
        return told_in(self.subject, letters)

    def __iadd__(self, other):
        self.letters = lengthened(self.subject, self.letters, other)
        return self

    def __len__(self):
        return len(self.letters)

    def __getitem__(self, at):
        check_place(self.letters, at)
        return self.letters[at]

    def __setitem__(self, at, worth):
        check_place(self.letters, at)
        if not is_token(self.subject.machine, worth):
            raise NoRow(at)
        self.letters = self.letters[:at] + (worth,) + self.letters[at + 1:]

    def __iter__(self):
        # Without this Python would iterate by reading[0], reading[1] and so on, up to an error.
        raise TypeError("a reading cannot be iterated over")

    def __enter__(self):
        self.saved = Saved(self.letters, self.saved)
        return self

    def __exit__(self, kind, value, trace):
        self.letters = self.saved.letters
        self.saved = self.saved.around


def check_place(letters, k):
    """Raise NoPlace if the value is no index of the row."""
    if not is_integer_between(k, 0, len(letters) - 1):
        raise NoPlace(k)


def check_tokens(tokens):
    """Raise NoRow if the value is no list or tuple."""
    if not isinstance(tokens, (list, tuple)):
        raise NoRow(-1)


def lengthened(reader, letters, token):
    """The row with one more token."""
    if not is_token(reader.machine, token) or len(letters) >= LONGEST_READING:
        raise NoRow(len(letters))
    return letters + (token,)


def rehearse(reading, action):
    """What the function action returns for the reading, with the row afterwards as it was before."""
    with reading:
        return action(reading)
