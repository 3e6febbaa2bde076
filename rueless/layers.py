"""Which states can be told apart by rows of at most so many letters, for every number of letters."""


class Layers:
    """Never changes. ways has for each state the next states, by letter, None where there is none.

    In round n states are in one class if from them the same rows of at most n letters can be walked. A class
    that falls apart leaves its name to its greatest part: so few names change, and what changes is soon told.
    """

    def __init__(self, ways):
        self._ways = ways
        self._sources = [{} for _ in ways]
        for state, steps in enumerate(ways):
            for behind in steps:
                if behind is not None:
                    self._sources[behind][state] = True
        self._names = [0] * len(ways)
        self._members = [list(range(len(ways)))]
        # For each state the (round, name) from which on it has the name.
        self._history = [[(0, 0)] for _ in ways]
        self.rounds = 0
        doubtful = list(range(len(ways)))
        while doubtful:
            changed = self._split_all(doubtful)
            if changed:
                self.rounds += 1
            for state in changed:
                self._history[state].append((self.rounds, self._names[state]))
            doubtful = list({source: True for state in changed for source in self._sources[state]})

    def _sign_of(self, state):
        return tuple([None if behind is None else self._names[behind] for behind in self._ways[state]])

    def _split_all(self, doubtful):
        """Splits all classes by the next states; doubtful are the states for which one of these has a new name.

        Returns the states that have new names.
        """
        parts = {}
        for state in doubtful:
            by_sign = parts.setdefault(self._names[state], {})
            by_sign.setdefault(self._sign_of(state), []).append(state)
        changed = []
        for name in parts:
            changed.extend(self._split(name, list(parts[name].values())))
        return changed

    def _split(self, name, parts):
        """Splits a class into these parts and what is left of it; returns the states that have new names."""
        told = {state: True for part in parts for state in part}
        rest = [state for state in self._members[name] if state not in told]
        if rest:
            parts = parts + [rest]
        kept = max(parts, key=len)
        self._members[name] = kept
        changed = []
        for part in parts:
            if part == kept:
                continue
            for state in part:
                self._names[state] = len(self._members)
            self._members.append(part)
            changed.extend(part)
        return changed

    def classes(self, letters=None):
        """For each state its class by rows of at most so many letters, numbered as they come up."""
        numbers = {}
        found = []
        for state in range(len(self._ways)):
            name = self._name_at(state, letters)
            found.append(numbers.setdefault(name, len(numbers)))
        return tuple(found)

    def _name_at(self, state, letters):
        let = [name for since, name in self._history[state] if letters is None or since <= letters]
        return let[-1]

    def rank(self, one, other):
        """The least number of letters of a row that can be walked from just one of two states, or None.

        A state may be None, from which not even the empty row can be walked.
        """
        if one is None or other is None:
            return None if one == other else 0
        for letters in sorted([since for since, _ in self._history[one] + self._history[other]]):
            if self._name_at(one, letters) != self._name_at(other, letters):
                return letters
        return None

    def first_row(self, letters, one, other):
        """The first row, in these letters, that can be walked from just one of two states that can be told apart."""
        row = ""
        rank = self.rank(one, other)
        while rank > 0:
            rank -= 1
            for letter, x, y in zip(letters, self._ways[one], self._ways[other]):
                if self.rank(x, y) == rank:
                    break
            row += letter
            one, other = x, y
        return row
