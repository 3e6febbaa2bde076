"""Machines that read the same rows, the least of them, and houses that serve the same rows."""

from itertools import combinations

from rueless.errors import BadMachine
from rueless.houses import house_count, house_of
from rueless.layers import Layers
from rueless.machines import Machine, front_machine, size_machine, walked
from rueless.moves import Moves
from rueless.plain import is_same, is_tuple_of
from rueless.rows import MOST_LETTERS, front_of, is_row
from rueless.search import first_row, numbered_ways


def _need_like_letters(one, other):
    if one.letters != other.letters:
        raise BadMachine("letters")


def first_difference(one, other):
    _need_like_letters(one, other)
    shifted = [tuple([None if behind is None else behind + len(one) for behind in steps]) for steps in other.ways]
    layers = Layers(one.ways + tuple(shifted))
    start = other.first + len(one)
    if layers.rank(one.first, start) is None:
        return None
    row = layers.first_row(one.letters, one.first, start)
    return (row, 1 if walked(one, one.first, row) is None else 0)


def row_beside(one, other):
    _need_like_letters(one, other)
    letters = one.letters

    def lead(pair, letter):
        at = letters.index(letter)
        behind = one.ways[pair[0]][at]
        return None if behind is None else (behind, other.ways[pair[1]][at])

    return first_row((one.first, other.first), letters, lead, lambda pair: pair[1] is None)


def state_classes(machine, *, letters=None):
    return Layers(machine.ways).classes(letters)


def class_depth(machine):
    return Layers(machine.ways).rounds


def least_machine(machine):
    classes = state_classes(machine)
    letters = machine.letters
    ways = {number: steps for number, steps in zip(classes, machine.ways)}

    def lead(number, letter):
        behind = ways[number][letters.index(letter)]
        return None if behind is None else classes[behind]

    _, least_ways = numbered_ways(classes[machine.first], letters, lead)
    return Machine(letters, least_ways)


def is_least(machine):
    return machine == least_machine(machine)


def alike_houses(table, places):
    machine, houses = size_machine(table, places)
    alike = {}
    for house, number in zip(houses, state_classes(machine)):
        alike.setdefault(number, []).append(house)
    return tuple([tuple(group) for group in list(alike.values())])


def many_states(trade, house, *, most=2000):
    machine, _ = front_machine(trade, house, most=most)
    layers = Layers(machine.ways)
    classes = layers.classes()
    many = house_count(trade, len(house)) + 1
    if max(classes) + 1 < many:
        return None
    states = [classes.index(number) for number in range(many)]
    firsts = _first_rows(machine)
    partings = [(i, j, layers.first_row(machine.letters, states[i], states[j]))
                for i, j in combinations(range(many), 2)]
    return ("states", tuple([firsts[state] for state in states]), tuple(partings))


def _first_rows(machine):
    """By state, the first row to it; states are numbered in breadth."""
    rows = {machine.first: ""}
    for state, steps in enumerate(machine.ways):
        for letter, behind in zip(machine.letters, steps):
            if behind is not None and behind not in rows:
                rows[behind] = rows[state] + letter
    return rows


def states_holds(trade, house, value):
    house = house_of(trade, house)
    if not is_tuple_of(value, 3) or not is_same(value[0], "states"):
        return False
    _, rows, partings = value
    if not isinstance(rows, tuple) or len(rows) <= house_count(trade, len(house)):
        return False
    if not all([is_row(trade.letters, row) for row in rows]):
        return False
    told = list(combinations(range(len(rows)), 2))
    if not is_tuple_of(partings, len(told)) or not all([is_tuple_of(one, 3) for one in partings]):
        return False
    if not all([is_same(one[:2], pair) for one, pair in zip(partings, told)]):
        return False
    found = [front_of(trade, house, row) for row in rows]
    if not all([len(front) > 0 for front in found]):
        return False
    moves = Moves(trade)
    return all([_is_parted(moves, rows, found, one) for one in partings])


def _is_parted(moves, rows, found, value):
    """Whether a parting, whose numbers are right, tells a row that is served behind just one of its two rows."""
    i, j, row = value
    if not is_row(moves.trade.letters, row) or max(len(rows[i]), len(rows[j])) + len(row) > MOST_LETTERS:
        return False
    return _is_served_from(moves, found[i], row) != _is_served_from(moves, found[j], row)


def _is_served_from(moves, front, row):
    """Whether some house of a front serves a row."""
    for letter in row:
        front = moves.front(front, letter)
    return len(front) > 0
