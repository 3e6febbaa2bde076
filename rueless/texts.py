"""Trades and houses as texts, and read back."""

from rueless.errors import BadText
from rueless.houses import bare_house, house_of
from rueless.plain import is_sign
from rueless.trades import BEATS, KINDS, LETTERS, MOST_STANDS, Trade

FIGURES = "0123456789"
NO_STAND = "-"


def trade_text(trade):
    lines = [f"stands {trade.stands}"]
    for letter in trade.letters:
        words = [NO_STAND if stand is None else str(stand) for stand in trade.steps(letter)]
        lines.append(" ".join([letter] + words))
    return "\n".join(lines)


def read_trade(text):
    if not isinstance(text, str):
        raise BadText(0)
    lines = text.split("\n")
    stands = _read_stands(lines[0])
    if stands is None:
        raise BadText(1)
    comers = {}
    beats = {}
    last = -1
    for number, line in enumerate(lines[1:], 2):
        words = line.split(" ")
        if not _are_ways(words, stands) or LETTERS.index(words[0]) <= last:
            raise BadText(number)
        last = LETTERS.index(words[0])
        ways = comers if words[0] in KINDS else beats
        ways[words[0]] = [None if word == NO_STAND else int(word) for word in words[1:]]
    return Trade(stands, comers, beats)


def _read_stands(line):
    """The number of stands that the first line tells, or None."""
    for stands in range(1, MOST_STANDS + 1):
        if line == f"stands {stands}":
            return stands
    return None


def _are_ways(words, stands):
    """Whether words are a letter and a next stand for each stand."""
    if not is_sign(words[0], LETTERS) or len(words) != stands + 1:
        return False
    let = [str(stand) for stand in range(stands)]
    if words[0] not in BEATS:
        let.append(NO_STAND)
    return all([word in let for word in words[1:]])


def house_text(house):
    house = bare_house(house)
    return " ".join([str(stand) for stand in house]) if house else "empty"


def read_house(trade, text):
    if not isinstance(text, str):
        raise BadText(0)
    words = [] if text == "empty" else text.split(" ")
    if not all([is_sign(word, FIGURES) for word in words]):
        raise BadText(1)
    return house_of(trade, [int(word) for word in words])
