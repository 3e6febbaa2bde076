"""How many rows a machine reads, and their numbers: by length, then letter by letter."""

from rueless.errors import Refused, TooGreat
from rueless.graphs import Graph
from rueless.plain import is_number, is_number_below
from rueless.rows import MOST_LETTERS


def _counts_behind(machine, counts):
    """By state, how many of some rows lead there with one letter more; counts tells it of the rows themselves."""
    behind_counts = {}
    for state in counts:
        for behind in machine.ways[state]:
            if behind is not None:
                behind_counts[behind] = behind_counts.get(behind, 0) + counts[state]
    return behind_counts


def _totals(machine, length):
    """How many rows of each length up to this one are read."""
    counts = {machine.first: 1}
    totals = [1]
    for _ in range(length):
        counts = _counts_behind(machine, counts)
        totals.append(sum(list(counts.values())))
    return totals


def _need_length(value):
    if not is_number_below(value, MOST_LETTERS + 1):
        raise Refused(value)


def count_rows(machine, length):
    _need_length(length)
    return _totals(machine, length)[-1]


def count_upto(machine, length):
    _need_length(length)
    return sum(_totals(machine, length))


def row_number(machine, row):
    read = machine.beginning(row)
    if read < len(row):
        raise Refused(read)
    lesser = {}
    state = machine.first
    for letter in row:
        # Lesser rows of as many letters go on from lesser beginnings, or leave the row by an earlier letter.
        lesser = _counts_behind(machine, lesser)
        at = machine.letters.index(letter)
        for behind in machine.ways[state][:at]:
            if behind is not None:
                lesser[behind] = lesser.get(behind, 0) + 1
        state = machine.ways[state][at]
    return sum(_totals(machine, len(row))[:-1]) + sum(list(lesser.values()))


def numbered_row(machine, number):
    if not is_number(number):
        raise Refused(number)
    rest = number
    counts = {machine.first: 1}
    for length in range(MOST_LETTERS + 1):
        many = sum(list(counts.values()))
        if many == 0:
            return None
        if rest < many:
            return _nth_row(machine, length, rest)
        rest -= many
        counts = _counts_behind(machine, counts)
    raise TooGreat(MOST_LETTERS)


def _nth_row(machine, length, number):
    """The row of a number among those of a length, of which there are more than that."""
    ends = _ends(machine, length)
    letters = []
    state = machine.first
    for counts in ends[-2::-1]:
        for letter, behind in zip(machine.letters, machine.ways[state]):
            many = 0 if behind is None else counts[behind]
            if number < many:
                break
            number -= many
        letters.append(letter)
        state = behind
    return "".join(letters)


def _ends(machine, length):
    """For each length up to this one, by state, how many rows of so many letters can be walked from there."""
    ends = [[1] * len(machine)]
    for _ in range(length):
        ahead = ends[-1]
        ends.append([sum([ahead[behind] for behind in steps if behind is not None]) for steps in machine.ways])
    return ends


def longest_row(machine):
    graph = Graph(machine)
    if graph.has_ring():
        return None
    row = graph.longest_row()
    if len(row) > MOST_LETTERS:
        raise TooGreat(MOST_LETTERS)
    return row
