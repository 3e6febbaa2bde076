"""Houses: any number of places, each in a stand of the trade."""

from math import comb

from rueless.errors import BadHouse, CannotTake, NoStand
from rueless.moves import Moves, beat_move, comer_choices, house_less, house_more, house_moves, stands_of
from rueless.plain import is_number, is_number_below, is_sequence
from rueless.search import reached
from rueless.trades import MOST_ENDLESS, MOST_STANDS, need_beat, need_kind, need_letter, need_stand

MANY_PLACES = 6
FEW_PLACES = 4


def most_places(trade):
    return MANY_PLACES if trade.stands <= MOST_ENDLESS else FEW_PLACES


def _need_stands(value, stands):
    if not is_sequence(value):
        raise BadHouse(-1)
    for at, stand in enumerate(value):
        if not is_number_below(stand, stands):
            raise BadHouse(at)


def _need_room(trade, places):
    if places > most_places(trade):
        raise BadHouse(most_places(trade))


def house_of(trade, stands, *, places=None):
    _need_stands(stands, trade.stands)
    _need_room(trade, len(stands))
    if is_number(places) and len(stands) != places:
        raise BadHouse(min(len(stands), places))
    return tuple(sorted(stands))


def bare_house(value):
    """The house that a sequence is in some trade; BadHouse if it is one in no trade."""
    _need_stands(value, MOST_STANDS)
    most = FEW_PLACES if any([stand >= MOST_ENDLESS for stand in value]) else MANY_PLACES
    if len(value) > most:
        raise BadHouse(most)
    return tuple(sorted(value))


def is_house(trade, value):
    if not isinstance(value, tuple) or len(value) > most_places(trade):
        return False
    if not all([is_number_below(stand, trade.stands) for stand in value]):
        return False
    return all([one <= two for one, two in zip(value, value[1:])])


def takers(trade, house, kind):
    house = house_of(trade, house)
    need_kind(trade, kind)
    return tuple([stand for stand, _ in comer_choices(trade, house, kind)])


def served(trade, house, kind, stand):
    house = house_of(trade, house)
    need_kind(trade, kind)
    for taker, behind in comer_choices(trade, house, kind):
        if is_number(stand) and stand == taker:
            return behind
    raise CannotTake(kind)


def beaten(trade, house, beat):
    house = house_of(trade, house)
    need_beat(trade, beat)
    return beat_move(trade, house, beat)


def moves_of(trade, house, letter):
    house = house_of(trade, house)
    need_letter(trade, letter)
    return house_moves(trade, house, letter)


def merged(trade, house, other):
    house = house_of(trade, house)
    other = house_of(trade, other)
    _need_room(trade, len(house) + len(other))
    return tuple(sorted(house + other))


def with_stand(trade, house, stand):
    house = house_of(trade, house)
    need_stand(trade, stand)
    _need_room(trade, len(house) + 1)
    return house_more(house, stand)


def without_stand(trade, house, stand):
    house = house_of(trade, house)
    if not (is_number(stand) and stand in house):
        raise NoStand(stand)
    return house_less(house, stand)


def one_less(trade, house):
    house = house_of(trade, house)
    return tuple(sorted([house_less(house, stand) for stand in stands_of(house)]))


def is_bag_within(house, other):
    house = bare_house(house)
    other = bare_house(other)
    return all([house.count(stand) <= other.count(stand) for stand in house])


def _need_places(trade, places):
    if not is_number_below(places, most_places(trade) + 1):
        raise BadHouse(-1)


def house_count(trade, places):
    _need_places(trade, places)
    return comb(trade.stands + places - 1, places)


def all_houses(trade, places):
    _need_places(trade, places)
    houses = [()]
    for _ in range(places):
        houses = [house + (stand,) for house in houses for stand in range(max(house, default=0), trade.stands)]
    return tuple(houses)


def house_number(trade, house):
    house = house_of(trade, house)
    return all_houses(trade, len(house)).index(house)


def numbered_house(trade, places, number):
    if not is_number_below(number, house_count(trade, places)):
        raise BadHouse(-1)
    return all_houses(trade, places)[number]


def reached_houses(trade, house):
    house = house_of(trade, house)
    moves = Moves(trade)
    found = reached([house], lambda one: [behind for letter in trade.letters for behind in moves.behind(one, letter)])
    return tuple(sorted(found))
