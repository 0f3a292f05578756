"""Counting the words that make blocked changes of a seen machine, all of the same number of letters."""

from backseen.tallies import counts_by_length


def counts_from_start(rows, length):
    """Return the list of the counts for 0, 1, 2 and so on to `length` letters: how many words lead to each row."""
    counts = [[1 if at == 0 else 0 for at in range(len(rows))]]
    for _ in range(length):
        shorter = counts[-1]
        longer = [0 for _ in rows]
        for source, row in enumerate(rows):
            for target in row:
                if target is not None:
                    longer[target] += shorter[source]
        counts.append(longer)
    return counts


class BlockedWords:
    """The numbers of words of one length that make blocked changes of each kind."""

    def __init__(self, openings, length):
        self.openings = openings
        self.grower = openings.grower
        self.length = length
        _, rows, ends = self.grower.machine
        self.ahead = counts_from_start(rows, length)
        self.behind = counts_by_length(rows, ends, length)
        self.known = {}
        # What is left of each word that is out, behind the state from which it leads nowhere.
        self.left = [self.grower.way_out(word) for word in openings.outside]

    def many_taken(self):
        """Return how many words are taken without any change."""
        return self.behind[self.length][0]

    def many_around(self, state, goal, length):
        """Return how many ways there are to a state and on from the goal to an end, with so many letters in all.

        With fewer letters than none there is no way.
        """
        key = state, goal, length
        if key not in self.known:
            self.known[key] = sum([
                self.ahead[many][state] * self.behind[length - many][goal] for many in range(length + 1)
            ])
        return self.known[key]

    def by_ends(self):
        """Return how many words make a state an end."""
        openings = self.openings
        states = [state for state in self.grower.states if openings.is_end_due(state)]
        return sum([self.ahead[self.length][state] for state in states if openings.is_blocked(("end", state))])

    def by_ways_to_new_end(self):
        """Return how many words make a new way to a new end."""
        # Such a way is blocked by a word that is out if it is just what is left of this word.
        left = {place: True for place in self.left}
        places = [
            (state, way) for state, way in left
            if 0 < len(way) <= self.length and self.openings.is_way_due(state, way, None)
        ]
        return sum([self.ahead[self.length - len(way)][state] for state, way in places])

    def by_ways_to_long(self):
        """Return how many words make a new way to a long state."""
        # Such a way is blocked only by a word that goes along all of it.
        places = {(state, rest[:many]): True for state, rest in self.left for many in range(1, len(rest) + 1)}
        found = 0
        for state, way in places:
            for goal in self.openings.long_states():
                if self.openings.is_way_due(state, way, goal) and self.openings.is_blocked(("way", state, way, goal)):
                    found += self.many_around(state, goal, self.length - len(way))
        return found

    def many_joining(self, one, other):
        """Return how many words lead to the state `one`, and on from the state `other` where that one leads nowhere."""
        found = self.ahead[self.length][one] if other in self.grower.table.is_end else 0
        for letter in self.grower.lacking(one):
            target = self.grower.target(other, letter)
            if target is not None:
                found += self.many_around(one, target, self.length - 1)
        return found

    def by_joins(self):
        """Return how many words join two states."""
        return sum([
            self.many_joining(one, other) + self.many_joining(other, one)
            for one, other in self.openings.joinable()
            if one < other and self.openings.is_blocked(("join", one, other))
        ])

    def many_in_all(self):
        """Return how many words make blocked changes of any kind."""
        return self.by_ends() + self.by_ways_to_new_end() + self.by_ways_to_long() + self.by_joins()
