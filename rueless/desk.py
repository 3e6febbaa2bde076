"""A desk: a yard that is led by lines of text."""

from rueless.counts import count_rows
from rueless.errors import BadHouse, BadText, CannotTake, NoLetter, NoStand, NotRueless, Refused, TooGreat
from rueless.fellows import greatest_parts
from rueless.kindsets import safe_sets
from rueless.live import Yard
from rueless.looks import fewest_looks
from rueless.machines import bag_machine
from rueless.rankings import first_ranking, first_ring
from rueless.stewards import Steward
from rueless.stories import least_story
from rueless.texts import house_text, read_house, read_trade
from rueless.verdict import first_clash

MOST_NUMBER = 99


def _joined(things):
    return " ".join([str(thing) for thing in things])


def _come(yard, kind):
    return [_joined(("stand", yard.come(kind)))]


def _choice(yard, kind):
    stand = yard.choice(kind)
    return ["nobody" if stand is None else _joined(("stand", stand))]


def _beat(yard, sign):
    yard.beat(sign)
    return _house(yard)


def _put(yard, stand):
    yard.put(stand)
    return _house(yard)


def _take(yard, stand):
    yard.take_away(stand)
    return _house(yard)


def _shut(yard, kind):
    yard.shut(kind)
    return _kinds(yard)


def _let(yard, kind):
    yard.let(kind)
    return _kinds(yard)


def _undo(yard):
    return _house(yard) if yard.undo() else ["nothing"]


def _redo(yard):
    return _house(yard) if yard.redo() else ["nothing"]


def _house(yard):
    return [house_text(yard.house)]


def _row(yard):
    return [yard.row]


def _kinds(yard):
    return [yard.trade.kinds]


def _front(yard):
    return [house_text(house) for house in yard.whole_front]


def _verdict(yard):
    clash = first_clash(yard.table)
    return ["rueless" if clash is None else _joined(("rueful",) + clash)]


def _story(yard):
    story = least_story(yard.table)
    return ["none"] if story is None else [_joined(story[:3]), story[3], story[4]]


def _sets(yard):
    return list(safe_sets(yard.trade))


def _parts(yard):
    return [_joined(part) for part in greatest_parts(yard.table)]


def _ranking(yard, kind):
    steward = Steward(yard.table)
    return [_told_or_ring(steward, kind, first_ranking(steward, kind))]


def _looks(yard, kind):
    steward = Steward(yard.table)
    return [_told_or_ring(steward, kind, fewest_looks(steward, kind))]


def _told_or_ring(steward, kind, told):
    return _joined(("ring",) + first_ring(steward, kind)) if told is None else _joined(told)


def _count(yard, letters):
    machine, _ = bag_machine(yard.table, yard.house)
    return [str(count_rows(machine, letters))]


def _lost(yard, letters):
    row = yard.lost(letters)
    return ["none" if row is None else row]


# What each word does, by what stands behind it.
WITH_NOTHING = {
    "undo": _undo, "redo": _redo, "house": _house, "row": _row, "kinds": _kinds, "front": _front, "verdict": _verdict,
    "story": _story, "sets": _sets, "parts": _parts,
}
WITH_LETTER = {
    "come": _come, "choice": _choice, "beat": _beat, "shut": _shut, "let": _let, "ranking": _ranking, "looks": _looks,
}
WITH_NUMBER = {"put": _put, "take": _take, "count": _count, "lost": _lost}


class Desk:
    """Changes as its yard does."""

    def __init__(self, text):
        head, mark, tail = text.partition("\n\n") if isinstance(text, str) else (text, "", "")
        trade = read_trade(head)
        self.yard = Yard(trade, read_house(trade, tail) if mark else ())

    def tell(self, line):
        if not isinstance(line, str):
            raise BadText(1)
        words = line.split(" ")
        try:
            lines = _done(self.yard, words)
        except (BadHouse, CannotTake, NoLetter, NoStand, Refused, TooGreat):
            lines = ["refused"]
        except NotRueless as clash:
            lines = [_joined(("rueful", clash.kind, clash.p, clash.q))]
        return tuple([one if one else "empty" for one in lines])


def _done(yard, words):
    """The lines that the words of a line bring."""
    if len(words) == 1 and words[0] in WITH_NOTHING:
        act = WITH_NOTHING[words[0]]
        return act(yard)
    if len(words) != 2:
        raise BadText(1)
    word, told = words
    if word in WITH_LETTER and len(told) == 1:
        act = WITH_LETTER[word]
        return act(yard, told)
    if word in WITH_NUMBER and told in [str(number) for number in range(MOST_NUMBER + 1)]:
        act = WITH_NUMBER[word]
        return act(yard, int(told))
    raise BadText(1)
