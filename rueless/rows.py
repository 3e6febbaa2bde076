"""Rows of letters, and the servings by which a house serves them."""

from rueless.errors import BadRow, Refused
from rueless.houses import house_of
from rueless.moves import Moves, choices
from rueless.plain import is_number_below, is_same, is_sequence, is_sign, is_tuple_of

MOST_LETTERS = 200


def need_row(letters, value):
    """Raises BadRow for any value that is no row of these letters."""
    if not isinstance(value, str):
        raise BadRow(-1)
    for at, sign in enumerate(value):
        if not is_sign(sign, letters):
            raise BadRow(at)
    if len(value) > MOST_LETTERS:
        raise BadRow(MOST_LETTERS)


def is_row(letters, value):
    """Whether any value is a row of these letters."""
    if not isinstance(value, str) or len(value) > MOST_LETTERS:
        return False
    return all([is_sign(sign, letters) for sign in value])


def row_rank(letters, row):
    """A key by which rows are compared: fewest letters first, then in the order of letters."""
    return (len(row), [letters.index(sign) for sign in row])


def comers_of(trade, row):
    """The comers of a row, without its beats."""
    return "".join([letter for letter in row if letter in trade.kinds])


def fronts(trade, house, row):
    house = house_of(trade, house)
    need_row(trade.letters, row)
    moves = Moves(trade)
    found = [(house,)]
    for letter in row:
        found.append(moves.front(found[-1], letter))
    return tuple(found)


def front_of(trade, house, row):
    return fronts(trade, house, row)[-1]


def can_serve(trade, house, row):
    return len(front_of(trade, house, row)) > 0


def longest_served(trade, house, row):
    return len([front for front in fronts(trade, house, row) if front]) - 1


def rows_served(trade, house, letters):
    house = house_of(trade, house)
    if not is_number_below(letters, MOST_LETTERS + 1):
        raise BadRow(-1)
    moves = Moves(trade)
    stack = [("", (house,))]
    while stack:
        row, front = stack.pop()
        if len(row) == letters:
            yield row
            continue
        # What is put on last is taken first, so the last letter goes on first.
        for letter in reversed(trade.letters):
            behind = moves.front(front, letter)
            if behind:
                stack.append((row + letter, behind))


def _good_houses(trade, house, row, is_end):
    """For each beginning of a row the houses of its front that serve the rest of the row and come to an end."""
    moves = Moves(trade)
    found = fronts(trade, house, row)
    good = [{one: True for one in found[-1] if is_end(one)}]
    for letter, front in zip(row[::-1], found[-2::-1]):
        ahead = good[-1]
        good.append({one: True for one in front if any([behind in ahead for behind in moves.behind(one, letter)])})
    return good[::-1]


def _good_choices(trade, house, letter, good):
    return [(stand, behind) for stand, behind in choices(trade, house, letter) if behind in good]


def _with_stand(serving, stand):
    """A beat has the stand None, which no serving tells."""
    return serving if stand is None else serving + (stand,)


def some_serving(trade, house, row):
    return serving_to(trade, house, row, lambda one: True)


def serving_to(trade, house, row, is_end):
    """The first serving of the whole row that leads to a house that is an end, or None."""
    house = house_of(trade, house)
    good = _good_houses(trade, house, row, is_end)
    if house not in good[0]:
        return None
    serving = ()
    for letter, ahead in zip(row, good[1:]):
        stand, house = _good_choices(trade, house, letter, ahead)[0]
        serving = _with_stand(serving, stand)
    return serving


def serving_count(trade, house, row):
    house = house_of(trade, house)
    need_row(trade.letters, row)
    counts = {house: 1}
    for letter in row:
        counts = _counts_behind(trade, counts, letter)
    return sum(list(counts.values()))


def _counts_behind(trade, counts, letter):
    """How many servings lead to each house behind a letter."""
    behind_counts = {}
    for house in counts:
        for _, behind in choices(trade, house, letter):
            behind_counts[behind] = behind_counts.get(behind, 0) + counts[house]
    return behind_counts


def all_servings(trade, house, row):
    house = house_of(trade, house)
    good = _good_houses(trade, house, row, lambda one: True)
    stack = [(0, house, ())] if house in good[0] else []
    while stack:
        at, now, serving = stack.pop()
        if at == len(row):
            yield serving
            continue
        # What is put on last is taken first, so the greatest stand goes on first.
        for stand, behind in reversed(_good_choices(trade, now, row[at], good[at + 1])):
            stack.append((at + 1, behind, _with_stand(serving, stand)))


def plays(trade, house, row, serving):
    house = house_of(trade, house)
    need_row(trade.letters, row)
    if not is_sequence(serving):
        raise Refused(-1)
    houses = [house]
    told = 0
    for at, letter in enumerate(row):
        stand = None
        if letter in trade.kinds:
            stand = serving[told] if told < len(serving) else None
            told += 1
        behind = _behind_choice(trade, houses[-1], letter, stand)
        if behind is None:
            raise Refused(at)
        houses.append(behind)
    if told < len(serving):
        raise Refused(len(row))
    return tuple(houses)


def _behind_choice(trade, house, letter, stand):
    """The house behind a letter that goes to a stand, any value; None if it cannot."""
    for one, behind in choices(trade, house, letter):
        if is_same(stand, one):
            return behind
    return None


def is_serving(trade, house, row, value):
    house = house_of(trade, house)
    need_row(trade.letters, row)
    if not isinstance(value, tuple):
        return False
    try:
        plays(trade, house, row, value)
    except Refused:
        return False
    return True


def refusal(trade, house, row):
    """The fronts up to the first empty one, this one too, of a row that is not served."""
    found = fronts(trade, house, row)
    return found[:found.index(()) + 1]


def row_paper(trade, house, row):
    serving = some_serving(trade, house, row)
    if serving is not None:
        return ("serving", serving)
    return ("refusal", refusal(trade, house, row))


def holds_row(trade, house, row, value):
    is_served = can_serve(trade, house, row)
    if not is_tuple_of(value, 2):
        return False
    if is_same(value[0], "serving"):
        return is_serving(trade, house, row, value[1])
    return not is_served and is_same(value, ("refusal", refusal(trade, house, row)))
