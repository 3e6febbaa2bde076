"""Searches in breadth: for the first row that leads to what is wanted, and for all that rows lead to."""

from rueless.errors import TooGreat


def _row_to(came, state):
    """The letters by which a state was come to, read back from it; came has (state ahead, letter) for each."""
    letters = []
    while came[state] is not None:
        state, letter = came[state]
        letters.append(letter)
    return "".join(letters[::-1])


def first_row(start, letters, lead, is_wanted, most=None, longest=None):
    """The first row that leads from the start, itself not wanted, to a wanted state, or None.

    lead(state, letter) is the next state, or None where nothing is to be found.
    States come up in the order of their first rows, so the first wanted one has the first row.
    Rows have at most so many letters as the longest.
    TooGreat(most) comes if more than so many states are met that are not wanted.
    """
    came = {start: None}
    queue = [start]
    lengths = [0]
    at = 0
    while at < len(queue) and lengths[at] != longest:
        state = queue[at]
        at += 1
        for letter in letters:
            behind = lead(state, letter)
            if behind is None or behind in came:
                continue
            came[behind] = (state, letter)
            if is_wanted(behind):
                return _row_to(came, behind)
            queue.append(behind)
            lengths.append(lengths[at - 1] + 1)
            if most is not None and len(queue) > most:
                raise TooGreat(most)
    return None


def first_row_among(starts, letters, leads, is_wanted, most=None):
    """As first_row, where a letter may lead a state to several ones: leads(state, letter) is their list.

    The row is "" if a start is wanted. States come in bands, those of one row together, as only so
    their rows come up in order.
    TooGreat(most) comes if more than so many states are met that are not wanted.
    """
    if any([is_wanted(start) for start in starts]):
        return ""
    seen = {start: True for start in starts}
    bands = [list(starts)]
    came = [None]
    at = 0
    while at < len(bands):
        for letter in letters:
            behind = {one: True for state in bands[at] for one in leads(state, letter)}
            if any([is_wanted(one) for one in behind]):
                return _row_to(came, at) + letter
            band = [one for one in behind if one not in seen]
            if band:
                seen.update({one: True for one in band})
                bands.append(band)
                came.append((at, letter))
            if most is not None and len(seen) > most:
                raise TooGreat(most)
        at += 1
    return None


def numbered_ways(start, letters, lead, most=None):
    """All states to which rows lead from the start, numbered in breadth, and by letter the number of the next one.

    lead(state, letter) is the next state, or None. TooGreat(most) comes if there are more than so many states.
    """
    numbers = {start: 0}
    states = [start]
    ways = []
    while len(ways) < len(states):
        steps = []
        for letter in letters:
            behind = lead(states[len(ways)], letter)
            if behind is not None and behind not in numbers:
                numbers[behind] = len(states)
                states.append(behind)
            if most is not None and len(states) > most:
                raise TooGreat(most)
            steps.append(None if behind is None else numbers[behind])
        ways.append(tuple(steps))
    return (tuple(states), tuple(ways))


def reached(starts, lead):
    """All states to which the steps of lead(state), a list of states, bring, by when they come up."""
    seen = {start: True for start in starts}
    queue = list(seen)
    at = 0
    while at < len(queue):
        for behind in lead(queue[at]):
            if behind not in seen:
                seen[behind] = True
                queue.append(behind)
        at += 1
    return queue
