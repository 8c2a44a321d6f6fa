"""What rows do to a reader, wherever they begin, joined and repeated without writing the rows."""

from slipstold.readings import advance, configurations

# How often a row may be repeated.
MOST_TIMES = 10 ** 30


class Course:
    """What a row does to a reader; it never changes.

    effects is a dict from each configuration in which the row may begin to the configuration behind it, the number
    of errors told and the number of mends.
    """

    def __init__(self, effects):
        self.effects = effects

    def then(self, other):
        """The course of the row followed by the row of another course."""
        return Course({start: joined(effect, other.effects[effect[0]]) for start, effect in self.effects.items()})


def joined(effect, later):
    """Two effects, of which the later one begins where the first one ends, as one."""
    return later[0], effect[1] + later[1], effect[2] + later[2]


def course_of(reader, row):
    """The course of a good row."""
    starts = configurations(reader)
    steps = {token: Course({start: advance(reader, start, token) for start in starts})
             for token in reader.machine.tokens()}
    course = Course({start: (start, 0, 0) for start in starts})
    for token in row:
        course = course.then(steps[token])
    return course


def repeated(unit, none, n):
    """What then makes of a thing n times in a row; none is the thing that changes nothing."""
    whole = none
    while n > 0:
        if n % 2 == 1:
            whole = whole.then(unit)
        unit = unit.then(unit)
        n = n // 2
    return whole
