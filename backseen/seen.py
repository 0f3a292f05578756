"""The classes of the beginnings of a sample at a look, and the machine that they make."""

from backseen.classed import Classes
from backseen.joined import LedTable
from backseen.machines import tree_table
from backseen.words import beginnings_of


class Beginnings:
    """The beginnings of a sample, numbered in ascending order, and the tree of the sample at a look."""

    def __init__(self, letters, sample, k):
        self.letters = letters
        self.words = beginnings_of(sample)
        self.number = {word: at for at, word in enumerate(self.words)}
        rows, ends = tree_table(letters, self.words, sample)
        self.table = LedTable(rows, ends, self.words, k)


class Seen(Classes):
    """The classes of the beginnings of a sample; they are the states of the seen machine."""

    def __init__(self, letters, sample, k):
        self.tree = Beginnings(letters, sample, k)
        super().__init__(letters, self.tree.table)
