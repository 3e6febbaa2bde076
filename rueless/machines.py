"""Machines, which read rows letter by letter, and the machines of what a house can serve."""

from rueless.errors import BadMachine, BadRow, NoLetter, Refused
from rueless.houses import all_houses, house_of, is_house, most_places
from rueless.moves import Moves, beat_move, choices, comer_choices
from rueless.plain import is_number, is_number_below, is_same, is_sequence, is_sign, is_tuple_of
from rueless.rows import is_row, need_row
from rueless.search import numbered_ways
from rueless.strikes import is_closed
from rueless.trades import LETTERS
from rueless.verdict import need_rueless, sure_choices
from rueless.weighing import two_choices

MOST_STATES = 2000
MOST_TIMES = 1000000000000000000


class Machine:
    """Never changes. ways has for each state the next states by letter, None where there is none."""

    def __init__(self, letters, ways, *, first=0):
        if not isinstance(letters, str) or letters != "".join([sign for sign in LETTERS if sign in letters]):
            raise BadMachine("letters")
        if not is_sequence(ways) or not 1 <= len(ways) <= MOST_STATES:
            raise BadMachine("ways")
        for state, steps in enumerate(ways):
            if not is_sequence(steps) or len(steps) != len(letters):
                raise BadMachine(state)
            if not all([behind is None or is_number_below(behind, len(ways)) for behind in steps]):
                raise BadMachine(state)
        if not is_number_below(first, len(ways)):
            raise BadMachine("first")
        self.letters = letters
        self.ways = tuple([tuple(steps) for steps in ways])
        self.first = first

    def __len__(self):
        return len(self.ways)

    def __eq__(self, other):
        return (isinstance(other, Machine) and self.letters == other.letters and self.ways == other.ways
                and self.first == other.first)

    def _need_state(self, value):
        if not is_number_below(value, len(self.ways)):
            raise Refused(value)

    def step(self, state, letter):
        self._need_state(state)
        if not is_sign(letter, self.letters):
            raise NoLetter(letter)
        return self.ways[state][self.letters.index(letter)]

    def started(self, state):
        self._need_state(state)
        return Machine(self.letters, self.ways, first=state)

    def after(self, row):
        need_row(self.letters, row)
        return walked(self, self.first, row)

    def reads(self, row):
        return self.after(row) is not None

    def beginning(self, row):
        need_row(self.letters, row)
        state = self.first
        for at, letter in enumerate(row):
            state = self.ways[state][self.letters.index(letter)]
            if state is None:
                return at
        return len(row)

    def after_pieces(self, pieces):
        if not is_sequence(pieces):
            raise BadRow(-1)
        for at, piece in enumerate(pieces):
            if not _is_piece(self.letters, piece):
                raise BadRow(at)
        state = self.first
        for row, times in pieces:
            state = _said(self, state, row, times)
            if state is None:
                return None
        return state


def walked(machine, state, row):
    """The state to which a row of its letters leads a state, None if it cannot be walked from there."""
    for letter in row:
        state = machine.ways[state][machine.letters.index(letter)]
        if state is None:
            return None
    return state


def _is_piece(letters, value):
    if not is_sequence(value) or len(value) != 2 or not is_row(letters, value[0]):
        return False
    return is_number(value[1]) and value[1] <= MOST_TIMES


def _said(machine, state, row, times):
    """The state to which a row leads that is said so many times, or None."""
    met = {}
    way = []
    while len(way) < times:
        if state in met:
            # From here on the states come round again.
            ring = way[met[state]:]
            return ring[(times - len(way)) % len(ring)]
        met[state] = len(way)
        way.append(state)
        state = walked(machine, state, row)
        if state is None:
            return None
    return state


def most_times(machine, row):
    need_row(machine.letters, row)
    met = {}
    state = machine.first
    while state not in met:
        met[state] = True
        state = walked(machine, state, row)
        if state is None:
            return len(met) - 1
    return None


def _sure_step(table, house, letter):
    """(stand, house behind) of a beat, with the stand None, or of the least sure choice; None if nobody takes it."""
    if letter in table.trade.beats:
        return (None, beat_move(table.trade, house, letter))
    ways = comer_choices(table.trade, house, letter)
    if not ways:
        return None
    sure = sure_choices(table, house, letter)
    if not sure:
        # Where no choice is sure the trade is rueful.
        need_rueless(table)
    return [(stand, behind) for stand, behind in ways if stand == sure[0]][0]


def _sure_house(table, house, letter):
    step = _sure_step(table, house, letter)
    return None if step is None else step[1]


def bag_machine(table, house):
    house = house_of(table.trade, house)
    letters = table.trade.letters
    houses, ways = numbered_ways(house, letters, lambda one, letter: _sure_house(table, one, letter))
    return (Machine(letters, ways), houses)


def size_machine(table, places):
    need_rueless(table)
    if not is_number_below(places, most_places(table.trade) + 1):
        raise Refused(places)
    houses = all_houses(table.trade, places)
    numbers = {house: number for number, house in enumerate(houses)}
    ways = []
    for house in houses:
        behind = [_sure_house(table, house, letter) for letter in table.trade.letters]
        ways.append([None if one is None else numbers[one] for one in behind])
    return (Machine(table.trade.letters, ways), houses)


def front_machine(trade, house, *, most=2000):
    house = house_of(trade, house)
    moves = Moves(trade)

    def lead(front, letter):
        behind = moves.front(front, letter)
        return behind if behind else None

    found, ways = numbered_ways((house,), trade.letters, lead, most)
    return (Machine(trade.letters, ways), found)


def _chain_steps(stands, chosen, is_step):
    """The steps (q, p) of a walk in breadth from the chosen stand; is_step(q, p): whether one leads from q to p."""
    met = [chosen]
    steps = []
    at = 0
    while at < len(met):
        for stand in stands:
            if stand not in met and is_step(stand, met[at]):
                met.append(stand)
                steps.append((stand, met[at]))
        at += 1
    return steps


def _sure_pairs(table, house, kind, chosen):
    """The pairs of houses of two that lead all takers of a house to the chosen stand."""
    stands = [stand for stand, _ in comer_choices(table.trade, house, kind)]
    steps = _chain_steps(stands, chosen, lambda q, p: table.side(kind, p, q) in ("first", "both"))
    return [_step_pair(table.trade, kind, q, p) for q, p in steps]


def _step_pair(trade, kind, q, p):
    """The house of two behind giving the kind to q, then that behind giving it to p."""
    first, second = two_choices(trade, kind, p, q)
    return (second, first)


def machine_paper(table, house):
    machine, houses = bag_machine(table, house)
    letters = table.trade.letters
    rows = []
    pairs = []
    for one, ways in zip(houses, machine.ways):
        steps = [_sure_step(table, one, letter) for letter in letters]
        rows.append(tuple([None if step is None else (step[0], behind) for step, behind in zip(steps, ways)]))
        for letter, step in zip(letters, steps):
            if step is not None and step[0] is not None:
                pairs.extend(_sure_pairs(table, one, letter, step[0]))
    return ("machine", houses, tuple(rows), table.weighing.needed_houses(pairs))


def machine_holds(trade, house, value):
    house = house_of(trade, house)
    if not is_tuple_of(value, 4) or not is_same(value[0], "machine") or not isinstance(value[1], tuple):
        return False
    _, houses, rows, relation = value
    if not houses or not all([is_house(trade, one) for one in houses]) or houses[0] != house:
        return False
    if not is_tuple_of(rows, len(houses)) or not is_closed(trade, relation):
        return False
    pairs = {pair: True for pair in relation}
    return all([_are_right_steps(trade, houses, one, steps, pairs) for one, steps in zip(houses, rows)])


def _are_right_steps(trade, houses, house, value, pairs):
    """Whether any value tells for each letter a right step of a house, to one of the houses."""
    if not is_tuple_of(value, len(trade.letters)):
        return False
    return all([_is_right_step(trade, houses, choices(trade, house, letter), letter, step, pairs)
                for letter, step in zip(trade.letters, value)])


def _is_right_step(trade, houses, ways, letter, value, pairs):
    if not ways:
        return value is None
    if not is_tuple_of(value, 2) or not is_number_below(value[1], len(houses)):
        return False
    chosen, number = value
    if not any([is_same(chosen, stand) and houses[number] == behind for stand, behind in ways]):
        return False

    def is_step(q, p):
        second, first = _step_pair(trade, letter, q, p)
        return first == second or (second, first) in pairs

    return len(_chain_steps([stand for stand, _ in ways], chosen, is_step)) == len(ways) - 1
