"""Edits, scripts, and the fewest edits that make a row right."""

from slipstold.errors import BadScript
from slipstold.machines import check_row, trimmed
from slipstold.names import is_name

LONGEST_SCRIPT = 5000


def source(script):
    """The row that the script begins with."""
    check_script(script)
    return tuple([edit[1] for edit in script if edit[0] != "put"])


def target(script):
    """The row that the script leads to."""
    check_script(script)
    # The token that an edit writes is always its last item.
    return tuple([edit[-1] for edit in script if edit[0] != "drop"])


def cost(script):
    """The number of the edits that are no keep."""
    check_script(script)
    return len([edit for edit in script if edit[0] != "keep"])


def check_script(script):
    """Raise BadScript if the value is no script."""
    place = bad_edit_place(script)
    if place is not None:
        raise BadScript(place)


def bad_edit_place(script):
    """None if the value is a script, otherwise the place that BadScript tells."""
    if not isinstance(script, (list, tuple)) or len(script) > LONGEST_SCRIPT:
        return -1
    for place, edit in enumerate(script):
        if not is_edit(edit):
            return place
    return None


def is_edit(value):
    """Whether the value is an edit."""
    if not isinstance(value, tuple) or not 2 <= len(value) <= 3:
        return False
    if not isinstance(value[0], str) or not all([is_name(item) for item in value[1:]]):
        return False
    if len(value) == 2:
        return value[0] in ("keep", "drop", "put")
    return value[0] == "turn" and value[1] != value[2]


def fewest(machine, row):
    """The least cost of a script that makes the row right."""
    check_row(machine, row)
    right = trimmed(machine)
    costs = all_costs(list_arrows(right), right.start, row)[-1]
    return least_at(right.finals(), costs)


def script_for(machine, row):
    """A script of the least cost that makes the row right."""
    check_row(machine, row)
    right = trimmed(machine)
    arrows = list_arrows(right)
    costs = all_costs(arrows, right.start, row)
    state = cheapest(right.finals(), costs[-1])
    at = len(row)
    script = []
    # With no token read and nothing paid, the state is the start and no edit is left to find.
    while at > 0 or costs[0][state] > 0:
        edit, state = last_edit(arrows, costs, row, at, state)
        if edit[0] != "put":
            at = at - 1
        script.append(edit)
    return script[::-1]


def list_arrows(machine):
    """The sorted list of the moves as tuples of a state, a token and the state behind it."""
    return sorted([(pair[0], pair[1], ahead) for pair, ahead in machine.moves().items()])


def cheapest(states, costs):
    """The first of the states that has the least cost."""
    return min([(costs[state], state) for state in states])[1]


def least_at(states, costs):
    """The least cost at one of the states."""
    return min([costs[state] for state in states])


def all_costs(arrows, first, row):
    """A list of dicts: item k has for states the least cost of a script from the first state there over k tokens.

    A state to which no script leads is left out. From the start puts alone lead to each state, if all are hopeful.
    """
    costs = [with_puts(arrows, {first: 0})]
    for token in row:
        costs.append(with_puts(arrows, behind_token(arrows, costs[-1], token)))
    return costs


def with_puts(arrows, costs):
    """The costs when puts may follow."""
    least = {state: costs[state] for state in costs}
    changed = True
    while changed:
        changed = False
        for state, token, ahead in arrows:
            if state in least and (ahead not in least or least[state] + 1 < least[ahead]):
                least[ahead] = least[state] + 1
                changed = True
    return least


def behind_token(arrows, costs, token):
    """The costs when the token was kept, turned or dropped and no put follows yet."""
    least = {state: costs[state] + 1 for state in costs}
    for state, written, ahead in arrows:
        if state in costs:
            paid = costs[state] + writing_cost(token, written)
            least[ahead] = min(paid, least.get(ahead, paid))
    return least


def writing_cost(token, written):
    """The cost of the edit that replaces the token by the one that is written."""
    if token == written:
        return 0
    return 1


def last_edit(arrows, costs, row, at, state):
    """The last edit of a cheapest script from the first tokens to the state, and the state before that edit."""
    for before, written, ahead in arrows:
        if ahead == state and costs[at][before] + 1 == costs[at][state]:
            return ("put", written), before
    token = row[at - 1]
    for before, written, ahead in arrows:
        if ahead == state and costs[at - 1][before] + writing_cost(token, written) == costs[at][state]:
            return writing_edit(token, written), before
    # A cheapest script that ends with none of these ends with a drop.
    return ("drop", token), state


def writing_edit(token, written):
    """The edit that replaces the token by the one that is written."""
    if token == written:
        return "keep", token
    return "turn", token, written
