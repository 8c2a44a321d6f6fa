"""The rows by which readers differ or tell too late, and the configurations to which rows lead."""

from slipstold.errors import Unlike
from slipstold.machines import hopeful, least_row
from slipstold.readings import advance, closing, first
from slipstold.searches import explored


def alike(one, other):
    """The least row for which two readers do not tell the same places, or None."""
    tokens = one.machine.tokens()
    if tokens != other.machine.tokens():
        raise Unlike()

    # A node holds both configurations and whether the readers differ at the token that led to it.
    def step(node, token):
        ahead, tells, works = advance(one, node[0], token)
        rival_ahead, rival_tells, rival_works = advance(other, node[1], token)
        return ahead, rival_ahead, tells != rival_tells

    def differ(node):
        return node[2] or closing(one, node[0])[0] != closing(other, node[1])[0]

    return least_row(tokens, (first(one), first(other), False), step, differ)


def late(reader):
    """The least row whose first told place lies behind its first hopeless place, or None."""
    machine = reader.machine
    states = hopeful(machine)

    def step(state, token):
        return machine[state, token]

    # Up to the first error, which is always told, a reader goes as its machine goes. A place without a move, and an
    # end at no final state, are told at once; so only a move to a state that is not hopeful makes a row hopeless
    # ahead of the first told place.
    def is_hopeless(state):
        return state is not None and state not in states

    return least_row(machine.tokens(), machine.start, step, is_hopeless)


def reachable(reader):
    """The sorted list of the configurations to which some row leads."""
    tokens = reader.machine.tokens()

    def leads(configuration):
        return [(token, advance(reader, configuration, token)[0]) for token in tokens]

    return sorted(explored(first(reader), leads))
