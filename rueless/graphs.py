"""The states that rows lead a machine to, and the rings among them."""

from rueless.search import first_row, reached


class Graph:
    """Never changes. Two states are in one component if rows lead from each to the other."""

    def __init__(self, machine):
        self._machine = machine
        self.states = reached([machine.first], lambda state: self.ahead(state))
        self.component = _components(self.states, {state: self.ahead(state) for state in self.states})

    def ahead(self, state):
        """The states to which letters lead a state, by letter, some perhaps several times."""
        return [behind for behind in self._machine.ways[state] if behind is not None]

    def ring_letters(self, state):
        """(letter, next state) for the letters with which rings begin at a state."""
        steps = list(zip(self._machine.letters, self._machine.ways[state]))
        home = self.component[state]
        return [(letter, behind) for letter, behind in steps if behind is not None and self.component[behind] == home]

    def has_ring(self):
        return any([len(self.ring_letters(state)) > 0 for state in self.states])

    def row_to(self, start, is_end):
        """The first row that leads from a state to one that is an end, or None; "" if it is one itself."""
        if is_end(start):
            return ""
        letters = self._machine.letters
        return first_row(start, letters, lambda state, letter: self._machine.ways[state][letters.index(letter)], is_end)

    def groups(self):
        """The states by component, in an order in which no row leads to a later component."""
        groups = {}
        for state in self.states:
            groups.setdefault(self.component[state], []).append(state)
        return [groups[number] for number in sorted(list(groups))]

    def heights(self):
        """By state, the number of letters of the longest rows from there. There must be no ring."""
        heights = {}
        for group in self.groups():
            heights[group[0]] = max([heights[behind] + 1 for behind in self.ahead(group[0])], default=0)
        return heights

    def longest_row(self):
        """The first of the longest rows that are read. There must be no ring."""
        heights = self.heights()
        state = self._machine.first
        letters = []
        while heights[state] > 0:
            for letter, behind in zip(self._machine.letters, self._machine.ways[state]):
                if behind is not None and heights[behind] == heights[state] - 1:
                    break
            letters.append(letter)
            state = behind
        return "".join(letters)


def _components(states, ahead):
    """By state, the number of its component; those to which rows lead from a component have lesser numbers."""
    sources = {state: [] for state in states}
    for state in states:
        for behind in ahead[state]:
            sources[behind].append(state)
    component = {}
    number = len(states)
    for state in _finished(states, ahead)[::-1]:
        if state not in component:
            number -= 1
            met = reached([state], lambda one: [source for source in sources[one] if source not in component])
            component.update({each: number for each in met})
    return component


def _finished(states, ahead):
    """The states in the order in which a walk in depth has gone through all that is ahead of them."""
    seen = {}
    done = []
    for start in states:
        if start in seen:
            continue
        seen[start] = True
        way = [(start, 0)]
        while way:
            state, at = way.pop()
            if at == len(ahead[state]):
                done.append(state)
                continue
            way.append((state, at + 1))
            behind = ahead[state][at]
            if behind not in seen:
                seen[behind] = True
                way.append((behind, 0))
    return done
