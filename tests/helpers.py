"""What the tests share: slow and plain ways to work out what the program says, and checks of calls."""

import copy
import inspect
import itertools
import random
import unittest

from rueless.errors import PaperFault
from rueless.desk import Desk
from rueless.machines import Machine
from rueless.prices import Prices
from rueless.relations import Relation
from rueless.shapes import Rooms
from rueless.trades import Trade
from rueless.twos import Table
from rueless.wanted import Wants

ORDER = "abcd01"


class Spec:
    """A trade as the dicts it is made of, with the slow ways to serve rows."""

    def __init__(self, stands, comers, beats=None):
        self.stands = stands
        self.ways = dict(comers, **(beats or {}))
        self.kinds = "".join(sorted(comers))
        self.beats = "".join(sorted(beats or {}))
        self.letters = self.kinds + self.beats
        self.trade = Trade(stands, comers, beats)
        self.known = {}

    def choices(self, house, letter):
        """(stand, house behind) for each way in which a house takes a letter."""
        ways = self.ways[letter]
        if letter in self.beats:
            return [(None, tuple(sorted(ways[stand] for stand in house)))]
        found = []
        for stand in sorted(set(house)):
            if ways[stand] is not None:
                rest = list(house)
                rest.remove(stand)
                found.append((stand, tuple(sorted(rest + [ways[stand]]))))
        return found

    def moves(self, house, letter):
        if (house, letter) not in self.known:
            self.known[(house, letter)] = sorted({behind for _, behind in self.choices(house, letter)})
        return self.known[(house, letter)]

    def servings(self, house, row):
        """All (serving, houses on the way), by serving."""
        if not row:
            return [((), (house,))]
        found = []
        for stand, behind in self.choices(house, row[0]):
            for serving, houses in self.servings(behind, row[1:]):
                found.append((serving if stand is None else (stand,) + serving, (house,) + houses))
        return found

    def front(self, house, row):
        front = {tuple(sorted(house))}
        for letter in row:
            front = {behind for one in front for behind in self.moves(one, letter)}
        return tuple(sorted(front))

    def serves(self, house, row):
        return bool(self.front(house, row))

    def rows(self, most):
        """All rows of at most so many letters, the first ones first."""
        for length in range(most + 1):
            for signs in itertools.product(self.letters, repeat=length):
                yield "".join(signs)

    def parting(self, house, other):
        """The first row that only the first house serves, or None: level by level over the fronts."""
        key = ("parting", tuple(house), tuple(other))
        if key not in self.known:
            self.known[key] = self.found_parting(house, other)
        return self.known[key]

    def found_parting(self, house, other):
        level = [("", self.front(house, ""), self.front(other, ""))]
        seen = {level[0][1:]}
        while level:
            following = []
            for row, front, rest in level:
                for letter in self.letters:
                    pair = tuple(tuple(sorted({behind for one in houses for behind in self.moves(one, letter)}))
                                 for houses in (front, rest))
                    if pair[0] and not pair[1]:
                        return row + letter
                    if pair[0] and pair not in seen:
                        seen.add(pair)
                        following.append((row + letter,) + pair)
            level = following
        return None


def random_spec(dice, stands, kinds, beats="", empty=0.4):
    comers = {kind: [None if dice.random() < empty else dice.randrange(stands) for _ in range(stands)]
              for kind in kinds}
    return Spec(stands, comers, {beat: [dice.randrange(stands) for _ in range(stands)] for beat in beats})


def ending_spec(dice, stands, kinds, beats="", empty=0.3):
    """A random trade that runs out: comers lead to greater stands, and beats never to lesser ones."""
    comers = {kind: [None if stand == stands - 1 or dice.random() < empty else dice.randrange(stand + 1, stands)
                     for stand in range(stands)] for kind in kinds}
    return Spec(stands, comers, {beat: [dice.randrange(one, stands) for one in range(stands)] for beat in beats})


def specs(seed, many, stands=(1, 2, 3, 4), kinds=("", "a", "ab", "abc"), beats=("", "0", "01"), empty=0.4):
    dice = random.Random(seed)
    return [random_spec(dice, dice.choice(stands), dice.choice(kinds), dice.choice(beats), empty)
            for _ in range(many)]


def rueless_specs(seed, many):
    """Rueless trades in most of which the sides differ, a few of them with stands that are better in a ring."""
    dice = random.Random(seed)
    found = []
    while len(found) < many:
        stands = dice.choice([2, 3, 3, 4])
        spec = random_spec(dice, stands, dice.choice(["a", "ab", "abc"]), dice.choice(["", "0", "01"]), 0.35)
        if dice.random() < 0.2:
            turns = [dice.sample(range(3), 3), [None, *dice.choices([0, 1, 2], k=2)], dice.sample(range(3), 3)]
            spec = Spec(3, {"a": turns[0], "b": turns[1]}, {"0": turns[2]})
        sides = [side for kind in spec.kinds for _, _, side in Table(spec.trade).sides(kind)]
        if "none" not in sides and ("first" in sides or "second" in sides or dice.random() < 0.1):
            found.append(spec)
    return found


def choices(spec, kind, p, q):
    """The house of p and q behind giving a comer to p, and behind giving it to q."""
    pc, qc = spec.ways[kind][p], spec.ways[kind][q]
    return tuple(sorted((pc, q))), tuple(sorted((p, qc)))


def fault_of(call, *told):
    """The number of the PaperFault that a check raises, None if it raises none."""
    try:
        result = call(*told)
    except PaperFault as fault:
        return fault.at
    assert result is None
    return None


def random_house(dice, spec, most=3):
    return tuple(sorted(dice.randrange(spec.stands) for _ in range(dice.randrange(most + 1))))


def random_row(dice, spec, most):
    return "".join(dice.choice(spec.letters) for _ in range(dice.randrange(most + 1))) if spec.letters else ""


def deep(value, times):
    for _ in range(times):
        value = (value,)
    return value


TIDE = Spec(3, {"a": [0, None, 2], "b": [1, 2, 0]}, {"0": [1, 2, 0]})
ROOMS = Spec(3, {"a": [2, 2, None], "b": [None, 2, None]})
CROSSED = Spec(3, {"a": [2, None, None], "b": [None, 2, None], "c": [2, 2, None]})
JOINT = Spec(4, {"a": [None, 2, 1, 3], "b": [None, 0, 1, None]})
RING = Spec(3, {"a": [1, 2, 0], "b": [None, 1, 1]}, {"0": [2, 0, 1]})
SILENT = Spec(2, {}, {"0": [1, 0]})
STILL = Spec(2, {})

ANY = [None, True, False, -1, 0, 1, 2, 7, 10 ** 20, "", "a", "0", "ab", "x", "a0", (), [], (0,), [0], (True,), [None],
       ("a",), ["a", "b"], (0, 1), [1, 0], ((0, 1), (0, 1)), [[]], ("rueless", (), ()), deep(0, 70), TIDE.trade,
       Table(ROOMS.trade), Relation(0, ()), (TIDE.trade,), [0, TIDE.trade], Machine("a", [[0]])]
# What bends put in; to add to it would change them all.
BENT = list(ANY)
ANY += [Prices(ROOMS.trade, {"a": [0, 1, None], "b": [None, 0, None]}), Wants([[("a", 0)]]), Rooms("a", ["a"]),
        Desk("stands 1")]


def same(one, other):
    """Equality by which no bool is an integer, and no list a tuple."""
    if type(one) is not type(other):
        return False
    if isinstance(one, (list, tuple)):
        return len(one) == len(other) and all(same(x, y) for x, y in zip(one, other))
    return one == other


def is_plain(value):
    """Whether a value has only what papers are made of: tuples, strings, integers and None."""
    if type(value) is tuple:
        return all(is_plain(one) for one in value)
    return value is None or type(value) in (str, int)


def is_shown_by(slow, spec, *told):
    """Whether a slow check of values holds; it may fail in any way if their form is wrong."""
    try:
        return is_plain(told) and bool(slow(spec, *told))
    except (TypeError, ValueError, IndexError, KeyError, AttributeError):
        return False


def bend(dice, value):
    """A value that is bent at one place, mostly deep within."""
    if type(value) is tuple and value and dice.random() < 0.85:
        at = dice.randrange(len(value))
        turn = dice.randrange(12)
        if turn == 0:
            return value[:at] + value[at + 1:]
        if turn == 1:
            return value[:at] + value[at:at + 1] + value[at:]
        if turn == 2:
            other = dice.randrange(len(value))
            turned = list(value)
            turned[at], turned[other] = turned[other], turned[at]
            return tuple(turned)
        return value[:at] + (bend(dice, value[at]),) + value[at + 1:]
    if type(value) is int and dice.random() < 0.6:
        return dice.choice([value + 1, value - 1, bool(value)])
    if type(value) is str and dice.random() < 0.6:
        letter = dice.choice("abcd01")
        return dice.choice([value + letter, letter + value, value[1:], value[:-1], letter])
    if type(value) is tuple and dice.random() < 0.4:
        return list(value)
    return dice.choice(BENT)


def bends(dice, value, many):
    """The value itself and values that are bent at one place or two."""
    yield value
    for _ in range(many):
        bent = bend(dice, value)
        yield bent if dice.random() < 0.8 else bend(dice, bent)


def has_list(value):
    return isinstance(value, list) or (isinstance(value, tuple) and any(has_list(one) for one in value))


def without(values, is_let):
    return [value for value in values if not is_let(value)]


def is_integer(value):
    return isinstance(value, int) and not isinstance(value, bool)


def no_stands(spec):
    return without(ANY, lambda value: is_integer(value) and 0 <= value < spec.stands)


def no_letters(letters):
    return without(ANY, lambda value: isinstance(value, str) and len(value) == 1 and value in letters)


NO_SEQUENCES = without(ANY, lambda value: isinstance(value, (list, tuple)))
NO_STRINGS = without(ANY, lambda value: isinstance(value, str))


class Case(unittest.TestCase):
    def assertSame(self, one, other, told=None):
        self.assertTrue(same(one, other), f"{one!r} is not {other!r} ({told!r})")

    def fails(self, made, call, *args, **named):
        """The call raises just this error, with just these things in its attributes."""
        try:
            result = call(*args, **named)
        except Exception as error:
            self.assertIs(type(error), type(made), f"{call.__name__}{args}{named} raised {error!r}")
            for name, told in vars(made).items():
                self.assertSame(getattr(error, name), told, (call, args))
        else:
            self.fail(f"{call.__name__}{args}{named} returned {result!r}")

    def agrees(self, call, **named):
        """The result of a call, however its arguments are passed; they stay as they are."""
        before = copy.deepcopy({name: value for name, value in named.items() if isinstance(value, (list, dict))})
        result = call(**named)
        self.assertFalse(has_list(result), result)
        parameters = inspect.signature(call).parameters
        only = {name for name in named if parameters[name].kind == inspect.Parameter.KEYWORD_ONLY}
        told = {name: named[name] for name in only}
        values = [value for name, value in named.items() if name not in only]
        for turn in (tuple, list):
            turned = [turn(value) if isinstance(value, list) else value for value in values]
            self.assertSame(call(*turned, **told), result)
        for name, value in before.items():
            self.assertSame(named[name], value)
        return result
