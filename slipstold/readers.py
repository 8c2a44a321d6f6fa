"""Readers: a machine with a table that says how to go on behind an error."""

from slipstold.errors import BadReader, BadRing
from slipstold.integers import is_integer_between
from slipstold.machines import is_pair
from slipstold.names import are_names, is_string_pair

LONGEST_HOLD = 3
SKIP = ("skip",)


class Reader:
    """A reader that goes on behind an error; it never changes."""

    def __init__(self, machine, table, *, hold=0):
        if not is_table(machine, table):
            raise BadReader("table")
        if not is_integer_between(hold, 0, LONGEST_HOLD):
            raise BadReader("hold")
        deeds = all_deeds(machine, table)
        ring = least_ring(machine, deeds)
        if ring is not None:
            raise BadRing(ring[0], ring[1])
        self.base = machine
        self.deeds = deeds
        self.span = hold

    @property
    def machine(self):
        """The machine by which the reader reads."""
        return self.base

    @property
    def hold(self):
        """For how many tokens behind a told error no other one is told."""
        return self.span

    def table(self):
        """A dict from the pairs of a state and a token without a move to their actions."""
        return {pair: self.deeds[pair] for pair in self.deeds if self.deeds[pair][0] != "move"}

    def with_hold(self, hold):
        """The same reader with another hold."""
        return Reader(self.base, self.table(), hold=hold)

    def with_action(self, state, token, action):
        """The same reader with another action at a pair of a state and a token without a move."""
        # What makes no pair may be no key of a dict at all.
        if not lacks_move(self.base, (state, token)):
            raise BadReader("table")
        changed = self.table()
        changed[state, token] = action
        return Reader(self.base, changed, hold=self.span)

    def __getitem__(self, at):
        # What is no string may be no key of a dict at all.
        if not is_string_pair(at):
            return None
        return self.deeds.get(at)

    def __iter__(self):
        # Without this Python would iterate by reader[0], reader[1] and so on, without end.
        raise TypeError("a reader cannot be iterated over")

    def __eq__(self, other):
        return (isinstance(other, Reader) and self.base == other.base and self.deeds == other.deeds
                and self.span == other.span)


def is_table(machine, table):
    """Whether the value is a dict of good actions at pairs without a move."""
    if not isinstance(table, dict):
        return False
    return all([lacks_move(machine, pair) and is_action(machine, pair[0], action) for pair, action in table.items()])


def lacks_move(machine, pair):
    """Whether the value is a pair of a state and a token of the machine that has no move."""
    return is_pair(pair, machine.tokens()) and pair[0] in machine.states() and machine[pair] is None


def is_action(machine, state, action):
    """Whether the value is a good action at a pair of this state."""
    if not isinstance(action, (list, tuple)) or not 1 <= len(action) <= 3 or not isinstance(action[0], str):
        return False
    if len(action) == 1:
        return action[0] == "skip"
    if len(action) == 3:
        return action[0] == "pass" and are_tokens(machine, action[1]) and is_state(machine, action[2])
    if action[0] == "jump":
        return is_state(machine, action[1]) and action[1] != state
    return action[0] in ("put", "take") and machine[state, action[1]] is not None


def are_tokens(machine, value):
    """Whether the value is a list or tuple of at least one token of the machine, all different."""
    tokens = machine.tokens()
    return are_names(value, len(tokens)) and all([token in tokens for token in value])


def is_state(machine, value):
    """Whether the value is a state of the machine."""
    return isinstance(value, str) and value in machine.states()


def all_deeds(machine, table):
    """A dict from all pairs of a state and a token to ("move", state) or the action there."""
    deeds = {}
    for state in machine.states():
        for token in machine.tokens():
            ahead = machine[state, token]
            if ahead is None:
                deeds[state, token] = as_tuple(table.get((state, token), SKIP))
            else:
                deeds[state, token] = ("move", ahead)
    return deeds


def as_tuple(action):
    """The action as a tuple; the tokens of a pass are sorted."""
    if action[0] == "pass":
        return "pass", tuple(sorted(action[1])), action[2]
    return tuple(action)


def least_ring(machine, deeds):
    """The least pair from which looking again never ends, or None."""
    for state, token in sorted(deeds):
        if rings(machine, deeds, state, token):
            return state, token
    return None


def rings(machine, deeds, state, token):
    """Whether looking again at the token, first in this state, never ends."""
    seen = {}
    while state not in seen:
        seen[state] = True
        deed = deeds[state, token]
        if not looks_again(token, deed):
            return False
        state = state_behind(machine, state, deed)
    return True


def looks_again(token, deed):
    """Whether the token is looked at again behind the deed."""
    return deed[0] in ("put", "jump") or (deed[0] == "pass" and token in deed[1])


def state_behind(machine, state, deed):
    """The state to which the deed leads from the state."""
    if deed[0] == "skip":
        return state
    if deed[0] in ("put", "take"):
        return machine[state, deed[1]]
    # A move, a jump and a pass name the state behind them last.
    return deed[-1]
