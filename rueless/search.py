"""The search in breadth for the first row that leads to what is wanted."""

from rueless.errors import TooGreat


def _row_to(came, state):
    """The letters by which a state was come to, read back from it."""
    letters = []
    while came[state] is not None:
        state, letter = came[state]
        letters.append(letter)
    return "".join(letters[::-1])


def first_row(start, letters, lead, is_wanted, most=None):
    """The first row that leads from the start, itself not wanted, to a wanted state, or None.

    lead(state, letter) is the next state, or None where nothing is to be found.
    States come up in the order of their first rows, so the first wanted one has the first row.
    TooGreat(most) comes if more than so many states are met that are not wanted.
    """
    came = {start: None}
    queue = [start]
    at = 0
    while at < len(queue):
        state = queue[at]
        at += 1
        for letter in letters:
            behind = lead(state, letter)
            if behind is None or behind in came:
                continue
            came[behind] = (state, letter)
            if is_wanted(behind):
                return _row_to(came, behind)
            queue.append(behind)
            if most is not None and len(queue) > most:
                raise TooGreat(most)
    return None


def reached(starts, lead):
    """All states to which the steps of lead(state), a list of states, bring, by when they come up."""
    seen = {start: True for start in starts}
    queue = list(seen)
    at = 0
    while at < len(queue):
        for behind in lead(queue[at]):
            if behind not in seen:
                seen[behind] = True
                queue.append(behind)
        at += 1
    return queue
