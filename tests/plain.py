"""Points 10 to 17 and 19 once more, written from the parts of readers alone and in another way than the program."""

import itertools
import random

from slipstold.machines import Machine
from slipstold.readers import Reader
from tests.samples import random_parts

QUIET_WORDS = ("move", "error", "found")


def all_states(parts):
    """All states of a machine's parts."""
    _, start, moves, finals = parts
    return sorted({start, *finals, *moves.values(), *(state for state, _ in moves)})


def open_pairs(parts):
    """The sorted list of the pairs without a move."""
    pairs = itertools.product(all_states(parts), sorted(parts[0]))
    return [pair for pair in pairs if pair not in parts[2]]


def full_table(parts, table):
    """The table with all its pairs and its actions as tuples."""
    full = {pair: tuple(table.get(pair, ("skip",))) for pair in open_pairs(parts)}
    for pair, action in full.items():
        if action[0] == "pass":
            full[pair] = ("pass", tuple(sorted(action[1])), action[2])
    return full


def again_at(parts, full, state, token):
    """The state in which the token is looked at again, or None if looking ends here."""
    if (state, token) in parts[2]:
        return None
    action = full[state, token]
    if action[0] == "put":
        return parts[2][state, action[1]]
    if action[0] == "jump" or (action[0] == "pass" and token in action[1]):
        return action[-1]
    return None


def ringing(parts, table):
    """The sorted list of the pairs that ring."""
    full = full_table(parts, table)
    found = []
    for pair in open_pairs(parts):
        state = pair[0]
        for _ in range(20):
            if state is not None:
                state = again_at(parts, full, state, pair[1])
        if state is not None:
            found.append(pair)
    return found


def look(parts, full, state, token):
    """What happens when the token is looked at: the events (state, word, edit or None), the state, the waiting."""
    moves = parts[2]
    if (state, token) in moves:
        return [(moves[state, token], "move", ("keep", token))], moves[state, token], ()
    action = full[state, token]
    events = [(state, "error", None)]
    if action[0] == "skip":
        return events + [(state, "skip", ("drop", token))], state, ()
    if action[0] == "take":
        ahead = moves[state, action[1]]
        return events + [(ahead, "take", ("turn", token, action[1]))], ahead, ()
    if action[0] == "pass" and token not in action[1]:
        return events + [(action[2], "pass", ("drop", token))], action[2], action[1]
    ahead = again_at(parts, full, state, token)
    edit = ("put", action[1]) if action[0] == "put" else None
    later, last, waiting = look(parts, full, ahead, token)
    return events + [(ahead, action[0], edit)] + later, last, waiting


def take(parts, full, state, waiting, token):
    """What happens at a token, as look returns it."""
    if not waiting:
        return look(parts, full, state, token)
    if token not in waiting:
        return [(state, "over", ("drop", token))], state, waiting
    later, last, waiting = look(parts, full, state, token)
    return [(state, "found", None)] + later, last, waiting


def work_of(events):
    """The number of mends among events."""
    return sum(word not in QUIET_WORDS for _, word, _ in events)


def read(parts, table, hold, row):
    """All that a row brings, as a dict."""
    full = full_table(parts, table)
    state, waiting = parts[1], ()
    trail, script, errors, works = [], [], [], 0
    for index, token in enumerate(row):
        events, state, waiting = take(parts, full, state, waiting, token)
        trail += [(index, here, word) for here, word, _ in events]
        script += [edit for _, _, edit in events if edit]
        works += work_of(events)
        if any(word == "error" for _, word, _ in events):
            errors.append(index)
    is_right_end = state in parts[3]
    ended = errors if is_right_end else errors + [len(row)]
    told_inside = far_enough(errors, hold)
    quiet = max(0, hold - (len(row) - 1 - told_inside[-1])) if told_inside else 0
    words = [word for _, _, word in trail]
    return {
        "told": far_enough(ended, hold),
        "mends": works + (not is_right_end),
        "arrive": (state, waiting, quiet),
        "trail": trail + [(len(row), state, "end")],
        "mended": (script, is_right_end and "jump" not in words and "pass" not in words),
    }


def far_enough(errors, hold):
    """The places of errors that are told: those with no told one at most hold places before."""
    places = []
    for place in errors:
        if not places or place - places[-1] > hold:
            places.append(place)
    return places


def plain_configurations(parts, table, hold):
    """The sorted list of all configurations."""
    postures = {(state, ()) for state in all_states(parts)}
    for action in full_table(parts, table).values():
        if action[0] == "pass":
            postures.add((action[2], action[1]))
    return sorted((state, waiting, quiet) for state, waiting in postures for quiet in range(hold + 1))


def plain_after(parts, table, hold, configuration, token):
    """The next configuration, told and mends at a token."""
    state, waiting, quiet = configuration
    events, state, waiting = take(parts, full_table(parts, table), state, waiting, token)
    is_told = quiet == 0 and any(word == "error" for _, word, _ in events)
    return (state, waiting, hold if is_told else max(0, quiet - 1)), int(is_told), work_of(events)


def plain_at_end(parts, configuration):
    """Told and mends of the end."""
    if configuration[0] in parts[3]:
        return 0, 0
    return int(configuration[2] == 0), 1


def plain_hopeful(parts):
    """The states that lie on a way from the start to a final state."""
    ahead = {state: {parts[2][pair] for pair in parts[2] if pair[0] == state} for state in all_states(parts)}
    links = {state: closure(ahead, state) for state in ahead}
    return {state for state in links[parts[1]] if links[state] & set(parts[3])}


def closure(ahead, first):
    """All that can be reached from the first, itself included."""
    found = {first}
    while True:
        more = found | {there for here in found for there in ahead[here]}
        if more == found:
            return found
        found = more


def plain_steps(parts, table, hold, standing):
    """The sorted list of the steps from a standing."""
    configuration, state = standing
    hopeful = plain_hopeful(parts)
    found = []
    for kind, old, new in itertools.product(("keep", "drop", "put", "turn"), parts[0], parts[0]):
        if (old == new) != (kind != "turn"):
            continue
        goal = state if kind == "drop" else parts[2].get((state, new))
        if goal not in hopeful:
            continue
        ahead, tells, works = configuration, 0, 0
        if kind != "put":
            ahead, tells, works = plain_after(parts, table, hold, configuration, old)
        edit = (kind, old, new) if kind == "turn" else (kind, old)
        found.append((edit, (ahead, goal), tells, works, int(kind != "keep")))
    return sorted(found)


def plain_useful(parts, table, hold):
    """The sorted list of the standings to which steps lead from the first one."""
    first = ((parts[1], (), 0), parts[1])
    found, queue = {first}, [first]
    for standing in queue:
        for step in plain_steps(parts, table, hold, standing):
            if step[1] not in found:
                found.add(step[1])
                queue.append(step[1])
    return sorted(found)


def random_action(chance, parts, pair):
    """A good action for a pair, as a list or a tuple."""
    state, _ = pair
    states = all_states(parts)
    moving = [token for token in parts[0] if (state, token) in parts[2]]
    others = [other for other in states if other != state]
    many = chance.randint(1, len(parts[0]))
    wide = chance.choice((list, tuple))(chance.sample(list(parts[0]), many))
    choices = [("skip",), ("pass", wide, chance.choice(states))]
    if moving:
        choices += [("put", chance.choice(moving)), ("take", chance.choice(moving))]
    if others:
        choices.append(("jump", chance.choice(others)))
    return chance.choice((list, tuple))(chance.choice(choices))


def random_table(chance, parts):
    """A table without a ring; some pairs are left out."""
    while True:
        table = {pair: random_action(chance, parts, pair) for pair in open_pairs(parts) if chance.random() < 0.85}
        if not ringing(parts, table):
            return table


def random_readers(seed, many, **limits):
    """Tuples of the parts of a machine, a table, a hold and the reader made of them."""
    chance = random.Random(seed)
    for number in range(many):
        parts = random_parts(chance, **limits)
        table = random_table(chance, parts)
        hold = number % 4
        yield parts, table, hold, Reader(Machine(*parts), table, hold=hold)
