"""Machines and readers as texts."""

from slipstold.errors import NoText
from slipstold.machines import Machine
from slipstold.names import is_name
from slipstold.readers import Reader

LONGEST_TEXT = 5000
HOLDS = ("0", "1", "2", "3")


def machine_text(machine):
    """The machine as a text."""
    return "\n".join(machine_lines(machine))


def reader_text(reader):
    """The reader as a text."""
    table = reader.table()
    rows = [("on",) + pair + action_words(table[pair]) for pair in sorted(table)]
    return "\n".join(machine_lines(reader.machine) + ["hold " + str(reader.hold)] + [" ".join(row) for row in rows])


def machine_lines(machine):
    """The lines of a machine."""
    moves = machine.moves()
    rows = [["tokens"] + machine.tokens(), ["start", machine.start]]
    rows = rows + [["move", pair[0], pair[1], moves[pair]] for pair in sorted(moves)]
    return [" ".join(row) for row in rows + [["final"] + machine.finals()]]


def action_words(action):
    """The words of an action."""
    if action[0] == "pass":
        return ("pass", action[2]) + action[1]
    return action


def read_machine(text):
    """The machine that is written in the text."""
    lines = lines_of(text)
    tokens, start, moves, finals, at = read_parts(lines)
    if at < len(lines):
        raise NoText(at + 1)
    return Machine(tokens, start, moves, finals)


def read_reader(text):
    """The reader that is written in the text."""
    lines = lines_of(text)
    tokens, start, moves, finals, at = read_parts(lines)
    hold = read_hold(lines, at)
    table = {}
    for later in range(at + 1, len(lines)):
        pair, action = read_pair(lines, later)
        if pair in table:
            raise NoText(later + 1)
        table[pair] = action
    return Reader(Machine(tokens, start, moves, finals), table, hold=hold)


def lines_of(text):
    """The lines of a text, each as a list of words."""
    if not isinstance(text, str) or len(text) > LONGEST_TEXT:
        raise NoText(0)
    return [line.split(" ") for line in text.split("\n")]


def words_at(lines, at):
    """The words of the line with this index; raise NoText if the text ends before it."""
    if at >= len(lines):
        raise NoText(at + 1)
    return lines[at]


def names_at(lines, at, head, least, most):
    """The names behind the first word of a line, which must be this one; so many names at least and at most."""
    words = words_at(lines, at)
    names = words[1:]
    if words[0] != head or not least <= len(names) <= most or not all([is_name(name) for name in names]):
        raise NoText(at + 1)
    return names


def read_parts(lines):
    """The tokens, the start, the moves and the final states of a machine, and the index of the line behind them."""
    tokens = names_at(lines, 0, "tokens", 1, LONGEST_TEXT)
    start = names_at(lines, 1, "start", 1, 1)[0]
    moves = {}
    at = 2
    while words_at(lines, at)[0] == "move":
        state, token, ahead = names_at(lines, at, "move", 3, 3)
        if (state, token) in moves:
            raise NoText(at + 1)
        moves[state, token] = ahead
        at = at + 1
    finals = names_at(lines, at, "final", 1, LONGEST_TEXT)
    return tokens, start, moves, finals, at + 1


def read_hold(lines, at):
    """The hold of a reader."""
    words = words_at(lines, at)
    if len(words) != 2 or words[0] != "hold" or words[1] not in HOLDS:
        raise NoText(at + 1)
    return int(words[1])


def read_pair(lines, at):
    """The pair of an on line and its action."""
    # The word of an action is a name by its form, too.
    names = names_at(lines, at, "on", 3, LONGEST_TEXT)
    action = read_action(names[2:])
    if action is None:
        raise NoText(at + 1)
    return (names[0], names[1]), action


def read_action(words):
    """The action that is written in the words, or None."""
    if words == ["skip"]:
        return ("skip",)
    if len(words) == 2 and words[0] in ("put", "take", "jump"):
        return words[0], words[1]
    if len(words) > 2 and words[0] == "pass":
        return "pass", words[2:], words[1]
    return None
