"""Which changes of a seen machine leave all words out that are out, and the first words that make such changes.

The changes are those of `backseen.grown`; a change is *blocked* if some word that is out is taken after it.
"""

from backseen.words import MOST_SHORT_LETTERS, ending, lead, word_place

# One more than there can be words that are out: of the ways between the same states that have one length, each of them
# blocks at most one.
ENOUGH = 13


def least_words(letters, length, most):
    """Return the list of the first words of this length over the letters, at most so many of them."""
    words = [""]
    for _ in range(length):
        words = [word + letter for word in words[:most] for letter in letters]
    return words[:most]


class Openings:
    """The changes of a seen machine that are not blocked, where the words of `outside` are out."""

    def __init__(self, grower, outside):
        self.grower = grower
        self.letters = grower.letters
        self.look = grower.look
        self.outside = outside

    def is_blocked(self, change):
        """Tell whether some word that is out is taken after the change."""
        return self.grower.first_taken(change, self.outside) is not None

    def is_end_due(self, state):
        """Tell whether a word that leads to the state makes it an end, and nothing else."""
        return not self.grower.has_end_alike(state)

    def is_way_due(self, state, way, goal):
        """Tell whether some word makes the new way from a state to a long one, or to a new end if the goal is None.

        The first letter of the way lacks at the state.
        """
        # Of what leads to a long state no more than its lead matters.
        word = self.grower.leads[state] + way
        if goal is None:
            return self.grower.end_matched(word) is None
        return lead(word, self.look) == self.grower.leads[goal] and self.grower.source_ahead(word, goal) is None

    def ways_to_new_end(self, state, length):
        """Return first words of this length whose first letter lacks at a state, and that may lead to a new end."""
        lacking = self.grower.lacking(state)
        many = ENOUGH + len(self.grower.machine[2])
        if length <= self.look:
            return [letter + rest for letter in lacking for rest in least_words(self.letters, length - 1, many)]
        tails = [word for word in least_words(self.letters, self.look, many) if word not in self.grower.end_of_lead]
        heads = least_words(self.letters, length - self.look - 1, ENOUGH)
        return [letter + head + tail for letter in lacking for head in heads for tail in tails]

    def ways_to_long(self, state, length, goal):
        """Return first words of this length whose first letter lacks at a state, and that may lead to a long state."""
        lacking = self.grower.lacking(state)
        word = self.grower.leads[goal]
        if length <= self.look:
            way = ending(word, length)
            return [way] if way[0] in lacking else []
        # These letters ahead of the lead do not go back to another state.
        free = [letter for letter in self.letters if self.grower.source_ahead(letter + word, goal) is None]
        if length == self.look + 1:
            return [letter + word for letter in lacking if letter in free]
        heads = least_words(self.letters, length - self.look - 2, ENOUGH)
        return [first + head + last + word for first in lacking for head in heads for last in free]

    def first_way(self, state, goal):
        """Return the first way from a state to a goal that is due and not blocked, or None if there is none."""
        # A longer way is not blocked, and if there is a longer one that is due, there is one of the last length here.
        for length in range(1, max(MOST_SHORT_LETTERS + 1, self.look + 2) + 1):
            if goal is None:
                ways = self.ways_to_new_end(state, length)
            else:
                ways = self.ways_to_long(state, length, goal)
            for way in ways:
                if self.is_way_due(state, way, goal) and not self.is_blocked(("way", state, way, goal)):
                    return way
        return None

    def long_states(self):
        """Return the list of the long states."""
        return [state for state in self.grower.states if self.grower.table.is_long(state)]

    def joinable(self):
        """Return the list of the pairs of different long states with the same lead, in either order."""
        found = self.long_states()
        return [(one, other) for one in found for other in found if self.grower.are_joinable(one, other)]

    def first_by_end(self):
        """Return the list of the first words that make a state an end and are not blocked."""
        states = [state for state in self.grower.states if self.is_end_due(state)]
        return [self.grower.firsts[state] for state in states if not self.is_blocked(("end", state))]

    def first_by_way(self):
        """Return the list of the first words that make new ways, for each state and goal, and are not blocked."""
        found = []
        for state in self.grower.states:
            for goal in [None] + self.long_states():
                way = self.first_way(state, goal)
                if way is not None:
                    behind = "" if goal is None else self.grower.lasts[goal]
                    found.append(self.grower.firsts[state] + way + behind)
        return found

    def first_word(self):
        """Return the first word that makes a change which is not blocked, or None if there is none."""
        found = self.first_by_end() + self.first_by_way()
        best = min(found, key=word_place, default=None)
        firsts, lasts = self.grower.firsts, self.grower.lasts
        joins = [(word_place(firsts[one] + lasts[other]), one, other) for one, other in self.joinable()]
        for place, one, other in sorted(joins):
            if best is not None and word_place(best) < place:
                break
            if not self.is_blocked(("join", one, other)):
                return place[1]
        return best
