"""What texts do to the states of machines (points 71 and 72)."""

from twiceeach.symbols import is_piece, is_turned, name_of


def states_after(machine, text):
    """Return the map of the text for the machine: the state that each state is led to."""
    return tuple(machine.run(text, begin=state) for state in range(len(machine.table)))


def unit(machines):
    """Return the effect of the empty text."""
    return effect(machines, "")


def effect(machines, text):
    """Return the effect of the text."""
    return tuple((states_after(machine, text), states_after(machine, text[::-1])) for machine in machines)


def combine(first, second, /):
    """Return the effect of a text with the first effect followed by a text with the second one."""
    made = []
    for (ahead, back), (more_ahead, more_back) in zip(first, second):
        made.append((tuple(more_ahead[state] for state in ahead), tuple(back[state] for state in more_back)))
    return tuple(made)


def turn(worth):
    """Return the effect of the text that is read from behind."""
    return tuple((back, ahead) for ahead, back in worth)


def row_effect(machines, row, effects):
    """Return the effect of a row whose pieces have the effects."""
    made = unit(machines)
    for symbol in row:
        made = combine(made, symbol_effect(machines, symbol, effects))
    return made


def symbol_effect(machines, symbol, effects):
    """Return the effect of one symbol."""
    if not is_piece(symbol):
        return effect(machines, symbol)
    worth = effects[name_of(symbol)]
    return turn(worth) if is_turned(symbol) else worth


def takes(machine, states):
    """Return True if the machine takes the texts that have the map for it."""
    return states[0] in machine.good
