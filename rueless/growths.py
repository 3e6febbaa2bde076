"""How the number of rows that a machine reads grows with their length, and papers that show it."""

from rueless.graphs import Graph
from rueless.machines import walked
from rueless.plain import is_number, is_same, is_tuple_of


def growth(machine):
    return _growth_of(Graph(machine))


def _growth_of(graph):
    if any([len(graph.ring_letters(state)) > 1 for state in graph.states]):
        return ("doubling",)
    if not graph.has_ring():
        return ("ends", len(graph.longest_row()))
    return ("power", max(list(_ring_counts(graph).values())) - 1)


def _ring_counts(graph):
    """By state, through how many rings, no two of which share a state, one row may go from there on."""
    counts = {}
    for group in graph.groups():
        ahead = [counts[behind] for state in group for behind in graph.ahead(state) if behind in counts]
        most = max(ahead, default=0) + (1 if graph.ring_letters(group[0]) else 0)
        counts.update({state: most for state in group})
    return counts


def growth_paper(machine):
    graph = Graph(machine)
    told = _growth_of(graph)
    if told[0] == "doubling":
        return ("growth", told, _forked_rows(machine, graph), ())
    if told[0] == "ends":
        levels = graph.heights()
        rows = (graph.longest_row(),)
    else:
        levels = _ring_levels(graph)
        rows = _ring_rows(machine, graph)
    return ("growth", told, rows, tuple([levels.get(state) for state in range(len(machine))]))


def _forked_rows(machine, graph):
    """A row to a state at which two rings begin with unlike letters, and these rings."""
    row = graph.row_to(machine.first, lambda state: len(graph.ring_letters(state)) > 1)
    fork = walked(machine, machine.first, row)
    rings = [letter + graph.row_to(behind, lambda state: state == fork) for letter, behind in graph.ring_letters(fork)]
    return (row, rings[0], rings[1])


def _ring_rows(machine, graph):
    """Rows to rings and round them in turn, through as many rings as one row may go."""
    counts = _ring_counts(graph)
    rows = []
    state = machine.first
    for many in range(counts[state], 0, -1):
        rows.append(graph.row_to(state, lambda one: counts[one] == many and len(graph.ring_letters(one)) > 0))
        state = walked(machine, state, rows[-1])
        letter, behind = graph.ring_letters(state)[0]
        rows.append(letter + graph.row_to(behind, lambda one: one == state))
    return tuple(rows)


def _ring_levels(graph):
    """By state a level, odd for the states of rings alone, that no way raises and only the ways of rings keep."""
    counts = _ring_counts(graph)
    # Between the odd levels of two rings there is room for all states that are on none.
    room = 2 * len(graph.states) + 2
    levels = {}
    for group in graph.groups():
        many = counts[group[0]]
        if graph.ring_letters(group[0]):
            levels.update({state: many * room - 1 for state in group})
        else:
            ahead = [levels[behind] for behind in graph.ahead(group[0])]
            levels[group[0]] = max([level + 2 - level % 2 for level in ahead], default=0)
    return levels


def _led(machine, state, value):
    """The state to which any value, as a row of any length, leads a state; None if it is none or is not read."""
    if not isinstance(value, str) or not all([sign in machine.letters for sign in value]):
        return None
    return walked(machine, state, value)


def growth_holds(machine, value):
    if not is_tuple_of(value, 4) or not is_same(value[0], "growth") or not isinstance(value[2], tuple):
        return False
    _, told, rows, levels = value
    if is_same(told, ("doubling",)):
        return is_same(levels, ()) and _are_forked(machine, rows)
    graph = Graph(machine)
    if not is_tuple_of(told, 2) or not is_number(told[1]) or not _are_levels(machine, graph, levels):
        return False
    if is_same(told[0], "ends"):
        return _are_ends(machine, graph, told[1], rows, levels)
    return is_same(told[0], "power") and _are_rings(machine, graph, told[1], rows, levels)


def _are_forked(machine, rows):
    if len(rows) != 3:
        return False
    row, x, y = rows
    fork = _led(machine, machine.first, row)
    if fork is None or _led(machine, fork, x) != fork or _led(machine, fork, y) != fork:
        return False
    return x != "" and y != "" and x[0] != y[0]


def _are_levels(machine, graph, value):
    """Whether any value is a tuple of a number for each state that rows lead to, a number or None for others."""
    if not is_tuple_of(value, len(machine)) or not all([level is None or is_number(level) for level in value]):
        return False
    return all([value[state] is not None for state in graph.states])


def _are_ends(machine, graph, length, rows, levels):
    if len(rows) != 1 or _led(machine, machine.first, rows[0]) is None:
        return False
    if len(rows[0]) != length or levels[machine.first] != length:
        return False
    return all([levels[behind] < levels[state] for state in graph.states for behind in graph.ahead(state)])


def _are_rings(machine, graph, power, rows, levels):
    if len(rows) != 2 * power + 2 or not all([_is_kept_low(graph, state, levels) for state in graph.states]):
        return False
    if len({levels[state] for state in graph.states if levels[state] % 2 == 1}) > power + 1:
        return False
    state = machine.first
    above = None
    for row, ring in zip(rows[::2], rows[1::2]):
        state = _led(machine, state, row)
        if state is None or ring == "" or _led(machine, state, ring) != state:
            return False
        if above is not None and levels[state] >= above:
            return False
        above = levels[state]
    return True


def _is_kept_low(graph, state, levels):
    """Whether no way from a state raises the level, at most one keeps an odd level, and none an even one."""
    ahead = [levels[behind] for behind in graph.ahead(state)]
    kept = len([level for level in ahead if level == levels[state]])
    return max(ahead, default=0) <= levels[state] and kept <= levels[state] % 2
