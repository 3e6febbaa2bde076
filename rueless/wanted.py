"""Wants: machines that say which rows may come."""

from rueless.errors import BadRow, BadText, BadWants, NoRoom, Refused
from rueless.machines import Machine
from rueless.plain import is_number_below, is_sequence, is_sign
from rueless.rows import MOST_LETTERS, is_row
from rueless.search import numbered_ways
from rueless.trades import LETTERS
from rueless.twins import least_machine, row_beside

MOST_ROOMS = 6
MOST_MADE = 40


class Wants:
    """Never changes. ways has for each room its pairs (letter, next room); rows are walked from room 0."""

    def __init__(self, ways):
        if not is_sequence(ways) or not 1 <= len(ways) <= MOST_ROOMS:
            raise BadWants(-1)
        for room, pairs in enumerate(ways):
            if not _is_room(pairs, len(ways)):
                raise BadWants(room)
        self._fill(ways)

    def _fill(self, ways):
        self.ways = tuple([tuple([(letter, behind) for letter, behind in pairs]) for pairs in ways])
        self.rooms = len(self.ways)
        used = [letter for pairs in self.ways for letter, _ in pairs]
        self.letters = "".join([letter for letter in LETTERS if letter in used])
        self.text = "\n".join([_line(room, pairs) for room, pairs in enumerate(self.ways)])
        self._led = [dict(pairs) for pairs in self.ways]

    def __eq__(self, other):
        return isinstance(other, Wants) and self.ways == other.ways

    @staticmethod
    def every(trade):
        return _made([[(letter, 0) for letter in trade.letters]])

    @staticmethod
    def of_rows(rows):
        for at, row in enumerate(rows):
            if not is_row(LETTERS, row):
                raise BadRow(at)
        return wants_of_rows(rows)

    @staticmethod
    def parse(text):
        if not isinstance(text, str):
            raise BadText(0)
        lines = text.split("\n")
        ways = []
        for number, line in enumerate(lines):
            pairs = _read_line(line, number, len(lines))
            if pairs is None:
                raise BadText(number + 1)
            ways.append(pairs)
        return Wants(ways)

    def _need_room(self, room):
        if not is_number_below(room, self.rooms):
            raise NoRoom(room)

    def after(self, room, letter):
        self._need_room(room)
        return self._led[room].get(letter) if is_sign(letter, LETTERS) else None

    def letters_at(self, room):
        self._need_room(room)
        return "".join([letter for letter, _ in self.ways[room]])

    def room_of(self, row):
        if not is_row(LETTERS, row):
            raise BadRow(0)
        room = 0
        for letter in row:
            room = self._led[room].get(letter)
            if room is None:
                return None
        return room

    def wants_row(self, value):
        return is_row(LETTERS, value) and self.room_of(value) is not None

    def row_count(self, length):
        if not is_number_below(length, MOST_LETTERS + 1):
            raise Refused(length)
        counts = [1] * self.rooms
        for _ in range(length):
            counts = [sum([counts[behind] for _, behind in pairs]) for pairs in self.ways]
        return counts[0]

    def both(self, other):
        def lead(pair, letter):
            one, two = self.after(pair[0], letter), other.after(pair[1], letter)
            return None if one is None or two is None else (one, two)

        return _made_by((0, 0), lead)

    def without(self, letters):
        return _made_by(0, lambda room, letter: None if letter in letters else self.after(room, letter))

    def least(self):
        return _made_of(least_machine(_machine_of(self)))


def _is_room(value, rooms):
    """Whether any value is a sequence of pairs of a letter, in order, and a room below this number."""
    if not is_sequence(value) or not all([is_sequence(pair) and len(pair) == 2 for pair in value]):
        return False
    if not all([is_sign(letter, LETTERS) and is_number_below(room, rooms) for letter, room in value]):
        return False
    numbers = [LETTERS.index(letter) for letter, _ in value]
    return all([one < two for one, two in zip(numbers, numbers[1:])])


def _made(ways):
    """Wants of these ways, which may have more rooms than wants that are told."""
    wants = Wants([[]])
    wants._fill(ways)
    return wants


def wants_of_rows(rows):
    """As Wants.of_rows, of rows of any length."""
    known = {row[:length]: True for row in rows for length in range(len(row) + 1)}
    return _made_by("", lambda row, letter: row + letter if row + letter in known else None)


def _made_by(start, lead):
    """Wants of all that rows lead to from the start, by breadth; lead(state, letter) is the next one, or None."""
    _, steps = numbered_ways(start, LETTERS, lead, MOST_MADE)
    return _made_of(Machine(LETTERS, steps))


def _made_of(machine):
    ways = [[(letter, room) for letter, room in zip(LETTERS, steps)] for steps in machine.ways]
    return _made([[pair for pair in pairs if pair[1] is not None] for pairs in ways])


def _machine_of(wants):
    """The machine that reads the wanted rows, of all letters."""
    return Machine(LETTERS, [[wants.after(room, letter) for letter in LETTERS] for room in range(wants.rooms)])


def _line(room, pairs):
    words = [f"{letter} {behind}" for letter, behind in pairs]
    return f"{room}: " + (" , ".join(words) if words else "none")


def _read_line(line, room, rooms):
    """The pairs that the line of a room tells, None if it is wrong; there are so many lines."""
    head = f"{room}: "
    if room >= MOST_ROOMS or not line.startswith(head):
        return None
    told = line[len(head):]
    if told == "none":
        return []
    let = [str(number) for number in range(min(rooms, MOST_ROOMS))]
    pairs = [word.split(" ") for word in told.split(" , ")]
    if not all([len(pair) == 2 and pair[1] in let for pair in pairs]):
        return None
    ways = [(letter, int(number)) for letter, number in pairs]
    return ways if _is_room(ways, rooms) else None


def wants_told(value):
    if not isinstance(value, tuple) or not 1 <= len(value) <= MOST_MADE:
        return None
    for pairs in value:
        if not isinstance(pairs, tuple) or not all([isinstance(pair, tuple) for pair in pairs]):
            return None
        if not _is_room(pairs, len(value)):
            return None
    return _made(value)


def wanted_beside(one, other):
    return row_beside(_machine_of(one), _machine_of(other))
