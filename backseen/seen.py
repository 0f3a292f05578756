"""The classes of the beginnings of a sample at a look, and the table that they make."""

from backseen.joined import Joiner, LedTable
from backseen.machines import tree_table
from backseen.words import beginnings_of


class Beginnings:
    """The beginnings of a sample, numbered in ascending order, and the tree of the sample at a look."""

    def __init__(self, letters, sample, k):
        self.letters = letters
        self.words = beginnings_of(sample)
        self.number = {word: at for at, word in enumerate(self.words)}
        rows, ends = tree_table(letters, self.words, sample)
        self.table = LedTable(rows, ends, self.words, k)


class Seen:
    """The classes of the beginnings, with the states of the seen machine in the place of their labels.

    `labels` has the labels of the classes in the order of the states. `rows` and `ends` are those of the seen machine,
    `ways` has for each state and each letter a member of the class from which the letter leads to a beginning.
    """

    def __init__(self, letters, sample, k):
        self.tree = Beginnings(letters, sample, k)
        self.joiner = Joiner(self.tree.table)
        self.labels = []
        self.state_of_label = {}
        self.rows = []
        self.ways = []
        if len(self.tree.words) > 0:
            self.number_classes()
        self.end_members = self.find_ends()
        self.ends = sorted(self.end_members)

    def label_behind(self, source, letter):
        """Return the label of the class to which a letter leads from a beginning."""
        return self.joiner.groups.label[self.tree.table.rows[source][letter]]

    def state_of(self, label):
        """Return the state of the class with the label, which is the next one if the class has none yet."""
        if label not in self.state_of_label:
            self.state_of_label[label] = len(self.labels)
            self.labels.append(label)
        return self.state_of_label[label]

    def number_classes(self):
        """Number the classes by their first words, and make the rows of the seen machine."""
        self.state_of(self.joiner.groups.label[0])
        while len(self.rows) < len(self.labels):
            ahead = self.joiner.ahead[self.labels[len(self.rows)]]
            ways = [ahead.get(letter) for letter in range(len(self.tree.letters))]
            row = [
                None if source is None else self.state_of(self.label_behind(source, letter))
                for letter, source in enumerate(ways)
            ]
            self.ways.append(ways)
            self.rows.append(row)

    def find_ends(self):
        """Return a dict that has, for each state that is an end, a word of the sample in its class."""
        members = {}
        for end in self.tree.table.ends:
            members[self.state_of_label[self.joiner.groups.label[end]]] = end
        return members

    def class_members(self, state):
        """Return the ascending list of the beginnings in the class that is the state."""
        return sorted(self.joiner.groups.members[self.labels[state]])

    def states_along(self, word):
        """Return the list of the states along the word, from state 0 on, or None if the word leads nowhere."""
        if len(self.rows) == 0:
            return None
        states = [0]
        for letter in word:
            state = self.rows[states[-1]][self.tree.letters.index(letter)]
            if state is None:
                return None
            states.append(state)
        return states

    def has_word(self, word):
        """Tell whether the word is in the closure."""
        states = self.states_along(word)
        return states is not None and states[-1] in self.end_members
