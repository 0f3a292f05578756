"""Looked states: the states of a least machine, together with the last letters read."""

from backseen.errors import TooLarge
from backseen.machines import MOST_STATES, least, need_machine
from backseen.words import lead, need_look


class Looked:
    """The looked states of a least machine at a look, and the rows by which letters lead from one to another.

    `pairs` has the looked states. `rows` and `ends` are those of the looked machine. TooLarge("looked") is raised if
    there are more than `most`.
    """

    def __init__(self, small, k, most=MOST_STATES):
        self.letters, self.small_rows, small_ends = small
        self.look = k
        self.pairs = []
        self.number = {}
        self.rows = []
        if len(self.small_rows) > 0:
            self.number_of((0, ""))
        while len(self.rows) < len(self.pairs):
            self.rows.append(self.row_of(self.pairs[len(self.rows)]))
            if len(self.pairs) > most:
                raise TooLarge("looked")
        is_end = {end: True for end in small_ends}
        self.ends = [at for at, (state, _) in enumerate(self.pairs) if state in is_end]

    def number_of(self, pair):
        """Return the number of a looked state, which is the next one if it has none yet."""
        if pair not in self.number:
            self.number[pair] = len(self.pairs)
            self.pairs.append(pair)
        return self.number[pair]

    def row_of(self, pair):
        """Return the row of a looked state: where each letter leads from there."""
        state, word = pair
        row = []
        for letter, target in zip(self.letters, self.small_rows[state]):
            if target is None:
                row.append(None)
            else:
                row.append(self.number_of((target, lead(word + letter, self.look))))
        return tuple(row)


def looked_states(machine, k):
    """Return the tuple of the looked states, in the order of the first words that lead to them."""
    need_machine(machine)
    need_look(k)
    return tuple(Looked(least(machine), k).pairs)


def looked_machine(machine, k):
    """Return the looked machine, as it is."""
    need_machine(machine)
    need_look(k)
    looked = Looked(least(machine), k)
    return looked.letters, tuple(looked.rows), tuple(looked.ends)
