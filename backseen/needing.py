"""Which words of a language are needed to tell it, found by cutting them, and the steps that make the others."""

from backseen.machines import state_after
from backseen.tables import first_word_to, least_machine, sources_by_letter
from backseen.words import ending

# Of all numbers of words only 0, 1 and more than that matter.
MANY = 2


def without_word(small, word):
    """Return the least machine of the language of a least machine without a word of it, of any number of states."""
    letters, rows, ends = small
    many = len(rows)
    # Behind the rows of the machine stands one row for each beginning of the word, as long as nothing else was read.
    states = [state_after(small, 0, word[:at]) for at in range(len(word) + 1)]
    table = [list(row) for row in rows] + [list(rows[state]) for state in states]
    for at, letter in enumerate(word):
        table[many + at][letters.index(letter)] = many + at + 1
    is_end = {end: True for end in ends}
    more_ends = [many + at for at in range(len(word)) if states[at] in is_end]
    return least_machine(letters, table, list(ends) + more_ends, many)


def counts_of_words(links, first):
    """Return how many words there are for each state, none being counted beyond 2.

    `first` has the numbers of empty words. `links` has for each state those whose words, with one letter more, are its
    words, too.
    """
    counts = [0 for _ in first]
    longer = list(first)
    while longer != counts:
        counts = longer
        longer = [min(MANY, first[at] + sum([counts[other] for other in link])) for at, link in enumerate(links)]
    return counts


def other_word(machine, start, word, wanted):
    """Return the first word but the given one that leads from a state to one of the wanted ones, or None.

    Together with a state stands the number of letters read, or None if they are no beginning of the given word.
    """
    letters, rows, _ = machine

    def following(place):
        state, at = place
        goes_on = None if at is None or at == len(word) else word[at]
        return [
            (letter, (target, at + 1 if letter == goes_on else None))
            for letter, target in zip(letters, rows[state]) if target is not None
        ]

    return first_word_to((start, 0), following, lambda place: place[0] in wanted and place[1] != len(word))


class Cuts:
    """The cuts of the words of a language of look k, which is that of a least machine.

    A cut is free if at least two words lead to the looked state behind which it stands, and at least two lead on from
    there to an end.
    """

    def __init__(self, small, k):
        self.machine = small
        self.letters, rows, ends = small
        self.look = k
        self.sources = sources_by_letter(rows, len(self.letters))
        self.is_end = {end: True for end in ends}
        behind = [[target for target in row if target is not None] for row in rows]
        ahead = [[source for by_target in self.sources for source in by_target[at]] for at in range(len(rows))]
        self.many_to = counts_of_words(ahead, [1 if at == 0 else 0 for at in range(len(rows))])
        self.many_from = counts_of_words(behind, [1 if at in self.is_end else 0 for at in range(len(rows))])

    def sources_along(self, word, state):
        """Return the list of the states from which the word leads to a state."""
        found = [state]
        for letter in word[::-1]:
            by_target = self.sources[self.letters.index(letter)]
            found = [source for target in found for source in by_target[target]]
        return found

    def is_free(self, begun, state):
        """Tell whether the cut behind the beginning of a word is free, which leads to this state."""
        if len(begun) < self.look or self.many_from[state] < MANY:
            return False
        sources = self.sources_along(ending(begun, self.look), state)
        return sum([self.many_to[source] for source in sources]) >= MANY

    def free_cut(self, word):
        """Return the number of letters ahead of the first free cut of a word of the language, or None."""
        state = 0
        for at in range(len(word) + 1):
            if self.is_free(word[:at], state):
                return at
            if at < len(word):
                state = state_after(self.machine, state, word[at])
        return None

    def step_to(self, word, at):
        """Return three other words of the language, and the place of a step, that make a word with a free cut there."""
        begun, rest = word[:at], word[at:]
        state = state_after(self.machine, 0, begun)
        kept = at - self.look
        sources = {source: True for source in self.sources_along(begun[kept:], state)}
        other = other_word(self.machine, 0, begun[:kept], sources) + begun[kept:]
        other_rest = other_word(self.machine, state, rest, self.is_end)
        if other + other_rest == word:
            # Of the two beginnings one is the other with letters behind it that lead back to the same looked state.
            shorter, longer = sorted([begun, other], key=len)
            other = longer + longer[len(shorter):]
        return other + other_rest, begun + other_rest, other + rest, len(other)
