"""The loops of a machine: which states lead back to themselves, and how loops stand behind one another."""

from backseen.tables import first_word_to, sources_by_letter


def finishing_order(rows):
    """Return the list of the rows in which each stands behind the rows to which it leads, unless these lead back."""
    met = {}
    order = []
    for start in range(len(rows)):
        if start in met:
            continue
        met[start] = True
        path = [(start, 0)]
        while len(path) > 0:
            here, at = path.pop()
            if at == len(rows[here]):
                order.append(here)
                continue
            path.append((here, at + 1))
            target = rows[here][at]
            if target is not None and target not in met:
                met[target] = True
                path.append((target, 0))
    return order


def parts_of(rows, many_letters):
    """Return for each row the number of its part: the rows that it leads to and that lead back to it.

    No letter leads to a part with a smaller number.
    """
    sources = sources_by_letter(rows, many_letters)
    part = [None for _ in rows]
    parts = 0
    for start in finishing_order(rows)[::-1]:
        if part[start] is not None:
            continue
        part[start] = parts
        waiting = [start]
        while len(waiting) > 0:
            here = waiting.pop()
            for by_target in sources:
                for source in by_target[here]:
                    if part[source] is None:
                        part[source] = parts
                        waiting.append(source)
        parts += 1
    return part


class Loops:
    """The states of a machine by the loops on which they stand.

    `inner` has for each state the letters that begin a word leading back to it; a state is *busy* if there is one.
    `levels` has for each state the greatest number of parts of busy states that a word from it goes through.
    """

    def __init__(self, machine):
        self.letters, self.rows, _ = machine
        self.part = parts_of(self.rows, len(self.letters))
        self.inner = [
            [at for at, target in enumerate(row) if target is not None and self.part[target] == self.part[state]]
            for state, row in enumerate(self.rows)
        ]
        self.levels = self.find_levels()

    def is_busy(self, state):
        """Tell whether some word of at least one letter leads from the state back to it."""
        return len(self.inner[state]) > 0

    def states_backward(self):
        """Return the list of the states in which each stands behind those to which it leads, but for its own part."""
        return sorted(range(len(self.rows)), key=lambda state: -self.part[state])

    def find_levels(self):
        """Return the list of the levels of the states."""
        by_part = {}
        for state in self.states_backward():
            own = 1 if self.is_busy(state) else 0
            behind = [
                by_part[self.part[target]] + own
                for target in self.rows[state]
                if target is not None and self.part[target] != self.part[state]
            ]
            by_part[self.part[state]] = max([by_part.get(self.part[state], own)] + behind)
        return [by_part[part] for part in self.part]

    def wide_state(self):
        """Return the first state of which two letters begin words leading back to it, or None."""
        for state, inner in enumerate(self.inner):
            if len(inner) > 1:
                return state
        return None

    def layers(self):
        """Return layers with as few busy ones as can be: one for each level of busy states, and others between."""
        depths = [0 for _ in self.rows]
        for state in self.states_backward():
            if not self.is_busy(state):
                below = [
                    depths[target]
                    for target in self.rows[state]
                    if target is not None and self.levels[target] == self.levels[state]
                ]
                depths[state] = 1 + max(below, default=0)
        return [level * (len(self.rows) + 1) + depth for level, depth in zip(self.levels, depths)]

    def edges_from(self, state):
        """Return the list of the letters that lead on from a state, each with the state to which it leads."""
        return [(letter, target) for letter, target in zip(self.letters, self.rows[state]) if target is not None]

    def first_way(self, state, other):
        """Return the least word that leads from one state to another one."""
        return first_word_to(state, self.edges_from, lambda at: at == other)

    def first_way_to_level(self, state, level):
        """Return the least word that leads from a state to a busy one of the level."""
        return first_word_to(state, self.edges_from, lambda at: self.is_busy(at) and self.levels[at] == level)

    def first_loop(self, state):
        """Return the least word of at least one letter that leads from the state to itself, or None."""
        ways = [
            letter + self.first_way(target, state)
            for letter, target in self.edges_from(state)
            if self.part[target] == self.part[state]
        ]
        return min(ways, key=lambda word: (len(word), word), default=None)
