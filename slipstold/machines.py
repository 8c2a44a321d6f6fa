"""Finite machines and their right rows."""

from slipstold.errors import BadMachine, NoRow, Unlike
from slipstold.names import are_names, is_name, is_string_pair
from slipstold.searches import explored, shortest_way

MOST_TOKENS = 4
MOST_STATES = 6
LONGEST_ROW = 2000


class Machine:
    """A finite machine that takes tokens one by one; it never changes."""

    def __init__(self, tokens, start, moves, finals):
        part = wrong_part(tokens, start, moves, finals)
        if part is not None:
            raise BadMachine(part)
        self.letters = tuple(sorted(tokens))
        self.origin = start
        self.arrows = {pair: moves[pair] for pair in moves}
        self.goals = tuple(sorted(finals))
        self.nodes = tuple(all_states(start, moves, finals))

    def tokens(self):
        """The sorted list of the tokens."""
        return list(self.letters)

    def states(self):
        """The sorted list of the states."""
        return list(self.nodes)

    def finals(self):
        """The sorted list of the final states."""
        return list(self.goals)

    def moves(self):
        """A dict from pairs of a state and a token to the states behind the moves."""
        return {pair: self.arrows[pair] for pair in self.arrows}

    @property
    def start(self):
        """The state in which the machine begins."""
        return self.origin

    def __getitem__(self, at):
        # What is no string may be no key of a dict at all.
        if not is_string_pair(at):
            return None
        return self.arrows.get(at)

    def __iter__(self):
        # Without this Python would iterate by machine[0], machine[1] and so on, without end.
        raise TypeError("a machine cannot be iterated over")

    def __contains__(self, x):
        if bad_place(self.letters, x) is not None:
            return False
        return walk(self.arrows, self.origin, x) in self.goals

    def __eq__(self, other):
        return (isinstance(other, Machine) and self.letters == other.letters and self.origin == other.origin
                and self.arrows == other.arrows and self.goals == other.goals)


def wrong_part(tokens, start, moves, finals):
    """The first part that makes no machine, or None."""
    if not are_names(tokens, MOST_TOKENS):
        return "tokens"
    if not is_name(start):
        return "start"
    if not are_moves(moves, tokens):
        return "moves"
    if not are_names(finals, MOST_STATES) or not leads_to(tokens, moves, start, finals):
        return "finals"
    if len(all_states(start, moves, finals)) > MOST_STATES:
        return "size"
    return None


def are_moves(moves, tokens):
    """Whether the value is a dict of moves with these tokens."""
    if not isinstance(moves, dict):
        return False
    return all([is_pair(pair, tokens) and is_name(ahead) for pair, ahead in moves.items()])


def is_pair(pair, tokens):
    """Whether the value is a tuple of a name and one of the tokens."""
    if not isinstance(pair, tuple) or len(pair) != 2:
        return False
    return is_name(pair[0]) and is_name(pair[1]) and pair[1] in tokens


def all_states(start, moves, finals):
    """The sorted list of all states that occur in the parts of a machine."""
    return sorted(set([start] + list(finals) + [pair[0] for pair in moves] + list(moves.values())))


def reached(tokens, moves, state):
    """The sorted list of the states to which moves lead from the state, itself included."""
    def leads(here):
        return [(token, moves[here, token]) for token in tokens if (here, token) in moves]

    return sorted(explored(state, leads))


def leads_to(tokens, moves, state, finals):
    """Whether moves lead from the state to one of the final states."""
    return any([ahead in finals for ahead in reached(tokens, moves, state)])


def bad_place(tokens, row):
    """None if the value is a row of the tokens, otherwise the place that NoRow tells."""
    if not isinstance(row, (list, tuple)) or len(row) > LONGEST_ROW:
        return -1
    for place, token in enumerate(row):
        if not isinstance(token, str) or token not in tokens:
            return place
    return None


def is_token(machine, value):
    """Whether the value is a token of the machine."""
    return isinstance(value, str) and value in machine.tokens()


def check_row(machine, row):
    """Raise NoRow if the value is no row of the machine."""
    place = bad_place(machine.tokens(), row)
    if place is not None:
        raise NoRow(place)


def walk(moves, state, row):
    """The state to which the row leads from the state, or None if some token has no move."""
    for token in row:
        # A state of None is in no key, so it stays None to the end.
        state = moves.get((state, token))
    return state


def behind(machine, row):
    """The state behind the row, or None if some token has no move."""
    check_row(machine, row)
    return walk(machine.moves(), machine.start, row)


def hopeful(machine):
    """The sorted list of the states on the way from the start to a final state."""
    tokens = machine.tokens()
    moves = machine.moves()
    finals = machine.finals()
    return [state for state in reached(tokens, moves, machine.start) if leads_to(tokens, moves, state, finals)]


def trimmed(machine):
    """The machine with its hopeful states alone."""
    states = hopeful(machine)
    moves = machine.moves()
    kept = {pair: moves[pair] for pair in moves if pair[0] in states and moves[pair] in states}
    return Machine(machine.tokens(), machine.start, kept, [state for state in machine.finals() if state in states])


def parted(one, other):
    """The least row that is right for exactly one of two machines, or None."""
    tokens = one.tokens()
    if tokens != other.tokens():
        raise Unlike()
    goals = one.finals()
    rival_goals = other.finals()

    def step(pair, token):
        return one[pair[0], token], other[pair[1], token]

    def differ(pair):
        return (pair[0] in goals) != (pair[1] in rival_goals)

    return least_row(tokens, (one.start, other.start), step, differ)


def least_right(machine):
    """The least right row."""
    goals = machine.finals()

    def step(state, token):
        return machine[state, token]

    def is_final(state):
        return state in goals

    return least_row(machine.tokens(), machine.start, step, is_final)


def least_row(tokens, first, step, wanted):
    """The least row of the sorted tokens that leads from the first node to a wanted one, or None.

    step(node, token) is the next node, wanted(node) tells whether the search ends there.
    """
    def leads(node):
        return [(token, step(node, token)) for token in tokens]

    row = shortest_way(first, leads, wanted)
    if row is None:
        return None
    return tuple(row)
