"""The classes of the rows of a table that the rules join, and the machine that they make."""

from backseen.joined import Joiner
from backseen.tables import least_machine


class Classes:
    """The classes of the rows of a table with leads, numbered by the first words that lead to them.

    The classes are the states of a machine with `rows` and `ends`; the class of the row 0 is the start. `labels` has
    the labels of the classes in their order, `ways` has for each class and each letter a member of the class from
    which the letter leads on, and `end_members` has for each class that is an end a member that is one.
    """

    def __init__(self, letters, table):
        self.letters = letters
        self.table = table
        self.joiner = Joiner(table)
        self.labels = []
        self.state_of_label = {}
        self.rows = []
        self.ways = []
        if len(table.rows) > 0:
            self.number_classes()
        self.end_members = self.find_ends()
        self.ends = sorted(self.end_members)

    def label_behind(self, source, letter):
        """Return the label of the class to which a letter leads from a row of the table."""
        return self.joiner.groups.label[self.table.rows[source][letter]]

    def state_of(self, label):
        """Return the state of the class with the label, which is the next one if the class has none yet."""
        if label not in self.state_of_label:
            self.state_of_label[label] = len(self.labels)
            self.labels.append(label)
        return self.state_of_label[label]

    def number_classes(self):
        """Number the classes by their first words, and make the rows of the machine."""
        self.state_of(self.joiner.groups.label[0])
        while len(self.rows) < len(self.labels):
            ahead = self.joiner.ahead[self.labels[len(self.rows)]]
            ways = [ahead.get(letter) for letter in range(len(self.letters))]
            row = [
                None if source is None else self.state_of(self.label_behind(source, letter))
                for letter, source in enumerate(ways)
            ]
            self.ways.append(ways)
            self.rows.append(row)

    def find_ends(self):
        """Return a dict that has, for each state that is an end, a row of the table in its class that is one."""
        members = {}
        for end in self.table.ends:
            members[self.state_of_row(end)] = end
        return members

    def state_of_row(self, at):
        """Return the state that is the class of a row of the table."""
        return self.state_of_label[self.joiner.groups.label[at]]

    def class_members(self, state):
        """Return the ascending list of the rows of the table in the class that is the state."""
        return sorted(self.joiner.groups.members[self.labels[state]])

    def lead_of(self, state):
        """Return the lead that all members of the class that is the state have."""
        return self.table.leads[self.joiner.groups.members[self.labels[state]][0]]

    def states_along(self, word):
        """Return the list of the states along the word, from state 0 on, or None if the word leads nowhere."""
        if len(self.rows) == 0:
            return None
        states = [0]
        for letter in word:
            state = self.rows[states[-1]][self.letters.index(letter)]
            if state is None:
                return None
            states.append(state)
        return states

    def has_word(self, word):
        """Tell whether the word is in the closure."""
        states = self.states_along(word)
        return states is not None and states[-1] in self.end_members

    def way_along(self, word, states):
        """Return the list of the rows of the table that are a way of a word of the closure, whose states are these."""
        numbers = [self.ways[state][self.letters.index(letter)] for state, letter in zip(states, word)]
        return numbers + [self.end_members[states[-1]]]

    def as_machine(self):
        """Return the machine that the classes are, as it is."""
        return self.letters, tuple([tuple(row) for row in self.rows]), tuple(self.ends)

    def as_least(self):
        """Return the least machine of the closure, however many states it has."""
        return least_machine(self.letters, self.rows, self.ends, 0 if len(self.rows) > 0 else None)
