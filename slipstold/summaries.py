"""Summaries: what rows do to a reader, wherever they begin."""

from slipstold.courses import Course, MOST_TIMES, course_of, repeated
from slipstold.errors import NoNumber, Unlike
from slipstold.integers import is_integer_between
from slipstold.machines import check_row
from slipstold.readings import check_configuration


class Summary:
    """What a row does to a reader, wherever it begins; only += changes it."""

    def __init__(self, reader, row):
        self.subject = reader
        # Sums and products hand over the course itself: their rows may be too long to be written.
        if isinstance(row, Course):
            self.course = row
        else:
            check_row(reader.machine, row)
            self.course = course_of(reader, row)

    @property
    def reader(self):
        """The reader to which the row does this."""
        return self.subject

    def __getitem__(self, at):
        check_configuration(self.subject, at)
        return self.course.effects[at]

    def __iter__(self):
        # Without this Python would iterate by summary[0], summary[1] and so on.
        raise TypeError("a summary cannot be iterated over")

    def __add__(self, other):
        if not isinstance(other, Summary):
            return NotImplemented
        check_same_reader(self, other)
        return Summary(self.subject, self.course.then(other.course))

    def __iadd__(self, other):
        if not isinstance(other, Summary):
            return NotImplemented
        check_same_reader(self, other)
        self.course = self.course.then(other.course)
        return self

    def __mul__(self, other):
        if not is_integer_between(other, 0, MOST_TIMES):
            raise NoNumber()
        return Summary(self.subject, repeated(self.course, course_of(self.subject, ()), other))

    def __rmul__(self, other):
        return self * other

    def __eq__(self, other):
        return (isinstance(other, Summary) and self.subject == other.subject
                and self.course.effects == other.course.effects)

    def no_more_than(self, other):
        """Whether from each configuration at most as many errors are told as in the row of the other summary."""
        check_same_reader(self, other)
        rivals = other.course.effects
        return all([effect[1] <= rivals[start][1] for start, effect in self.course.effects.items()])


def check_same_reader(one, other):
    """Raise Unlike if the summaries have different readers."""
    if not one.reader == other.reader:
        raise Unlike()
