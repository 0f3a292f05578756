"""Making a word that must be in from the words of a short sample, step by step.

A *rest* is kept for each class of beginnings that are joined so far: each member of the class is made with the rest
behind it. The rest is never longer than what stands behind any member in some word of the sample; so none of these
words is longer than the longest word of the sample. As a rest only becomes shorter, or goes over to a larger class,
each beginning is made with few rests behind it.
"""

from backseen.joined import Groups
from backseen.tables import letters_to_end


class Maker:
    """Rows of evidence, with the number of the row that makes each word."""

    def __init__(self, sample):
        self.rows = [("seen", word) for word in sample]
        self.number = {word: at for at, word in enumerate(sample)}

    def carry(self, one, other, shared, rest):
        """Make `other` with `rest` behind it, where `one` has `rest`, and both have `shared`, behind it already.

        `one` and `other` are alike; so this is a step.
        """
        word = other + rest
        if word not in self.number:
            numbers = self.number[one + shared], self.number[other + shared], self.number[one + rest]
            self.number[word] = len(self.rows)
            self.rows.append(("by", numbers[0], numbers[1], numbers[2], len(one)))


class RestMaker:
    """Joins beginnings as the log of their joins tells, and makes each member of each class with its rest behind it."""

    def __init__(self, seen, sample):
        self.seen = seen
        self.words = seen.tree.words
        self.maker = Maker(sample)
        self.groups = Groups(len(self.words))
        self.rests = self.shortest_rests()
        for rule, one, other, letter in seen.joiner.log:
            self.join_by(rule, one, other, letter)

    def shortest_rests(self):
        """Return for each beginning a shortest word that makes it a word of the sample."""
        rests = ["" for _ in self.words]
        table = self.seen.tree.table
        many = letters_to_end(table.rows, table.ends)
        for source, letter, target in table.edges()[::-1]:
            if many[source] == many[target] + 1:
                rests[source] = self.seen.tree.letters[letter] + rests[target]
        return rests

    def rest_of_class(self, at):
        """Return the rest of the class of a beginning."""
        return self.rests[self.groups.label[at]]

    def join_by(self, rule, one, other, letter):
        """Join two classes by a rule, and give all members the shorter one of their two rests."""
        rows = self.seen.tree.table.rows
        if rule == "ends":
            self.merge(one, other, one, other, "", "")
        elif rule == "back":
            sign = self.seen.tree.letters[letter]
            self.merge(one, other, one, other, sign + self.rest_of_class(rows[one][letter]), "")
        else:
            sign = self.seen.tree.letters[letter]
            self.merge(rows[one][letter], rows[other][letter], one, other, self.rest_of_class(one), sign)

    def merge(self, first, second, one, other, shared, between):
        """Join `first` and `second`, which are `one` and `other` with `between` behind them.

        `one` and `other` are alike, and both are made with `shared` behind them.
        """
        label = self.groups.label
        sizes = [(len(self.rests[label[at]]), -len(self.groups.members[label[at]])) for at in (first, second)]
        # Of equal rests that of the larger class stays.
        if sizes[1] < sizes[0]:
            first, second, one, other = second, first, other, one
        rest, old = self.rest_of_class(first), self.rest_of_class(second)
        self.maker.carry(self.words[one], self.words[other], shared, between + rest)
        self.spread(second, old, rest)
        stays, _ = self.groups.unite(first, second)
        self.rests[stays] = rest

    def spread(self, source, old, rest):
        """Make all members of the class of a beginning, for which the rest is made, with this rest behind them."""
        for at in self.groups.members[self.groups.label[source]]:
            self.maker.carry(self.words[source], self.words[at], old, rest)

    def shorten(self):
        """Give each class as its rest a shortest word that leads from it to an end of the seen machine."""
        seen = self.seen
        many = letters_to_end(seen.rows, seen.ends)
        for state in sorted(range(len(seen.rows)), key=lambda at: many[at]):
            label = self.groups.label[seen.class_members(state)[0]]
            old = self.rests[label]
            if len(old) > many[state]:
                letter = self.letter_to_end(state, many)
                source = seen.ways[state][letter]
                rest = seen.tree.letters[letter] + self.rest_of_class(seen.tree.table.rows[source][letter])
                self.spread(source, old, rest)
                self.rests[label] = rest

    def letter_to_end(self, state, many):
        """Return a letter with which a shortest word from the state to an end begins."""
        row = self.seen.rows[state]
        for letter, target in enumerate(row):
            if target is not None and many[target] == many[state] - 1:
                return letter
        return None

    def make(self, word):
        """Make a word of the closure, letter after letter, with the rest of the class that is come to behind it."""
        seen = self.seen
        state = 0
        for many, sign in enumerate(word):
            letter = seen.tree.letters.index(sign)
            source = seen.ways[state][letter]
            rest = self.rest_of_class(seen.tree.table.rows[source][letter])
            self.maker.carry(self.words[source], word[:many], self.rest_of_class(source), sign + rest)
            state = seen.rows[state][letter]


def needed_rows(rows, last):
    """Return the rows that the row with the number `last` needs, itself as the last one, numbered anew."""
    needed = {last: True}
    for at in range(last, -1, -1):
        if at in needed and rows[at][0] == "by":
            for number in rows[at][1:4]:
                needed[number] = True
    fresh = {at: new for new, at in enumerate(sorted(needed))}
    kept = []
    for at in sorted(needed):
        row = rows[at]
        kept.append(row if row[0] == "seen" else ("by", fresh[row[1]], fresh[row[2]], fresh[row[3]], row[4]))
    return tuple(kept)


def rows_to_make(seen, sample, word):
    """Return the rows of evidence that make a word of the closure, the last one this word."""
    rests = RestMaker(seen, sample)
    rests.shorten()
    rests.make(word)
    return needed_rows(rests.maker.rows, rests.maker.number[word])
