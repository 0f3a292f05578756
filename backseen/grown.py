"""The seen machine of a sample, with the leads of its states, and what it becomes with one word more.

A *change* is what a word does that is not taken: ("end", p), ("join", p, q), ("way", p, t, None) or ("way", p, t, q),
with states p and q and a word t.
"""

from backseen.classed import Classes
from backseen.joined import LedTable
from backseen.machines import first_words_of, is_taken, last_words_of
from backseen.seen import Seen
from backseen.words import ending


class Grower:
    """The seen machine of a sample at a look.

    `end_of_lead` has for each lead of an end this end, and `source_of` for each lead, each letter and each state to
    which this leads from a state with this lead that state: of states with one lead there is just one.
    """

    def __init__(self, letters, sample, k):
        self.letters = letters
        self.look = k
        self.seen = Seen(letters, sample, k)
        self.machine = self.seen.as_machine()
        self.states = list(range(len(self.seen.rows)))
        self.table = LedTable(self.machine[1], self.machine[2], [self.seen.lead_of(at) for at in self.states], k)
        self.leads = self.table.leads
        self.end_of_lead = {self.leads[end]: end for end in self.machine[2]}
        self.source_of = {
            (self.leads[source], letters[letter], target): source for source, letter, target in self.table.edges()
        }
        self.firsts = first_words_of(self.machine)
        self.lasts = last_words_of(self.machine)

    def target(self, state, letter):
        """Return the state to which a letter leads from a state, or None."""
        return self.machine[1][state][self.letters.index(letter)]

    def lacking(self, state):
        """Return the list of the letters that lead nowhere from a state."""
        return [letter for letter, target in zip(self.letters, self.machine[1][state]) if target is None]

    def way_out(self, word):
        """Return the state to which the longest beginning of the word leads that leads to one, and what is left."""
        state = 0
        for at, letter in enumerate(word):
            target = self.target(state, letter)
            if target is None:
                return state, word[at:]
            state = target
        return state, ""

    def end_matched(self, word):
        """Return the end that is alike to the word, or None."""
        if len(word) < self.look:
            return None
        return self.end_of_lead.get(ending(word, self.look))

    def source_ahead(self, word, state):
        """Return the state to which one goes back from a state along the last letter of the word, or None."""
        ahead = word[:-1]
        if len(ahead) < self.look:
            return None
        return self.source_of.get((ending(ahead, self.look), word[-1], state))

    def way_back(self, word, state, many):
        """Go back from a state along at most so many last letters; return the state reached and the letters read."""
        read = 0
        while read < many:
            source = self.source_ahead(word[:len(word) - read], state)
            if source is None:
                break
            state = source
            read += 1
        return state, ending(word, read)

    def with_end(self, state):
        """Return the machine in which one more state is an end."""
        letters, rows, ends = self.machine
        return letters, rows, ends + (state,)

    def with_way(self, state, way, goal):
        """Return the machine with a new way from a state to another one, or to a new end if the goal is None."""
        letters, rows, ends = self.machine
        made = [list(row) for row in rows]
        here = state
        for letter in way[:-1]:
            made[here][letters.index(letter)] = len(made)
            here = len(made)
            made.append([None for _ in letters])
        made[here][letters.index(way[-1])] = len(made) if goal is None else goal
        if goal is not None:
            return letters, made, ends
        return letters, made + [[None for _ in letters]], ends + (len(made),)

    def with_join(self, one, other):
        """Return the machine in which two states are joined, and all that has to be joined then."""
        table = LedTable(self.machine[1], self.machine[2], self.leads, self.look, [(one, other)])
        return Classes(self.letters, table).as_machine()

    def with_change(self, change):
        """Return a machine, whose states need not be in order, that is made by the change."""
        if change[0] == "end":
            return self.with_end(change[1])
        if change[0] == "join":
            return self.with_join(change[1], change[2])
        return self.with_way(change[1], change[2], change[3])

    def first_taken(self, change, outside):
        """Return the first word of `outside` that is taken after the change, or None."""
        machine = self.with_change(change)
        for word in outside:
            if is_taken(machine, word):
                return word
        return None

    def has_end_alike(self, state):
        """Tell whether some end has the lead of the state."""
        return self.leads[state] in self.end_of_lead

    def are_joinable(self, one, other):
        """Tell whether two states are two different long ones with the same lead."""
        return one != other and self.table.are_alike(one, other)
