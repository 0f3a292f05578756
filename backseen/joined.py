"""Joining the rows of a table that have leads, and judging the rows of evidence that do so.

The rules are (on), (ends) and (back) of the joining of beginnings. A beginning, or whatever else is joined, is here
the index of a row of a table, and a letter is its index; the leads are those at one look.
"""

from backseen.words import lead


class LedTable:
    """A table of rows with ends, and with the leads of its rows at the look k.

    The lead of a row is that of the word for it, which may be its lead already. `starts` has the pairs of rows that
    are joined before any rule applies.
    """

    def __init__(self, rows, ends, words, k, starts=()):
        self.rows = rows
        self.ends = ends
        self.is_end = {end: True for end in ends}
        self.leads = [lead(word, k) for word in words]
        self.look = k
        self.starts = starts

    def is_long(self, at):
        """Tell whether the lead of a row has all letters that the look asks for."""
        return len(self.leads[at]) == self.look

    def are_alike(self, one, other):
        """Tell whether two rows are alike."""
        return self.is_long(one) and self.leads[one] == self.leads[other]

    def edges(self):
        """Return the list of the edges, each with the row, the letter and the row to which it leads."""
        return [
            (source, letter, target)
            for source, row in enumerate(self.rows)
            for letter, target in enumerate(row)
            if target is not None
        ]


class Groups:
    """Numbers that are joined bit by bit; those that are joined have one label."""

    def __init__(self, many):
        self.label = list(range(many))
        self.members = [[at] for at in range(many)]

    def are_joined(self, one, other):
        """Tell whether two numbers are joined."""
        return self.label[one] == self.label[other]

    def unite(self, one, other):
        """Join two numbers, and return the label that stays and the one that goes; these are equal if nothing does."""
        stays, goes = self.label[one], self.label[other]
        if stays == goes:
            return stays, stays
        if len(self.members[stays]) < len(self.members[goes]):
            stays, goes = goes, stays
        moved = self.members[goes]
        for at in moved:
            self.label[at] = stays
        self.members[stays].extend(moved)
        self.members[goes] = []
        return stays, goes


class Joiner:
    """All that the rules join in a table with leads.

    `log` has the applied rules `(rule, u, v, letter)`, each of which joined what was not joined before; the letter is
    None with (ends). `ahead` has for each label the letters that lead on, each with a member from which it does.
    """

    def __init__(self, table):
        self.table = table
        self.groups = Groups(len(table.rows))
        self.log = []
        self.due = []
        self.ahead = [{} for _ in table.rows]
        self.behind = [{} for _ in table.rows]
        self.begin_with_edges()
        self.begin_with_ends()
        # The last ones are applied first, so that nothing is logged that the starts have joined.
        self.due.extend([("starts", one, other, None) for one, other in table.starts])
        while len(self.due) > 0:
            rule, one, other, letter = self.due.pop()
            self.apply(rule, one, other, letter)

    def begin_with_edges(self):
        """Note the letters that lead on from each row, and the long rows from which letters lead to each row."""
        for source, letter, target in self.table.edges():
            self.ahead[source][letter] = source
            if self.table.is_long(source):
                self.note_behind(self.behind[target], (letter, self.table.leads[source]), source)

    def begin_with_ends(self):
        """Have the alike ends joined."""
        first = {}
        for end in self.table.ends:
            if self.table.is_long(end):
                other = first.setdefault(self.table.leads[end], end)
                if other != end:
                    self.due.append(("ends", other, end, None))

    def note_behind(self, noted, key, source):
        """Note a row with its letter and lead as the key, or have it joined with the one that is noted there."""
        other = noted.setdefault(key, source)
        if other != source:
            self.due.append(("back", other, source, key[0]))

    def note_ahead(self, noted, letter, source):
        """Note a row from which a letter leads on, or have this go on to the one that is noted there."""
        other = noted.setdefault(letter, source)
        if other != source:
            self.due.append(("on", other, source, letter))

    def apply(self, rule, one, other, letter):
        """Apply a rule, if it joins what is not joined yet."""
        if rule == "on":
            first, second = self.table.rows[one][letter], self.table.rows[other][letter]
        else:
            first, second = one, other
        stays, goes = self.groups.unite(first, second)
        if stays == goes:
            return
        if rule != "starts":
            self.log.append((rule, one, other, letter))
        gone_ahead, gone_behind = self.ahead[goes], self.behind[goes]
        for key in gone_ahead:
            self.note_ahead(self.ahead[stays], key, gone_ahead[key])
        for key in gone_behind:
            self.note_behind(self.behind[stays], key, gone_behind[key])


def joined_by_row(table, groups, rule, one, other, letter):
    """Return the two rows that a row of evidence joins, or None if it is not good by what the groups have joined."""
    if rule == "ends":
        if one in table.is_end and other in table.is_end and table.are_alike(one, other):
            return one, other
        return None
    target, other_target = table.rows[one][letter], table.rows[other][letter]
    if target is None or other_target is None:
        return None
    if rule == "on" and groups.are_joined(one, other):
        return target, other_target
    if rule == "back" and groups.are_joined(target, other_target) and table.are_alike(one, other):
        return one, other
    return None


def groups_of_rows(table, rows):
    """Return what the rows of evidence have joined, or None if one of them is not good."""
    groups = Groups(len(table.rows))
    for one, other in table.starts:
        groups.unite(one, other)
    for rule, one, other, letter in rows:
        pair = joined_by_row(table, groups, rule, one, other, letter)
        if pair is None:
            return None
        groups.unite(pair[0], pair[1])
    return groups


def is_led_way(table, groups, letters, word, numbers):
    """Tell whether the rows with these numbers are a way of the word by what the groups have joined."""
    if not groups.are_joined(numbers[0], 0) or numbers[-1] not in table.is_end:
        return False
    for at, letter in enumerate(word):
        target = table.rows[numbers[at]][letters.index(letter)]
        if target is None or not groups.are_joined(target, numbers[at + 1]):
            return False
    return True


def are_complete(table, groups):
    """Tell whether no rule joins two rows of the table that the groups have not joined."""
    label = groups.label
    due = [(("ends", table.leads[end]), label[end]) for end in table.ends if table.is_long(end)]
    for source, letter, target in table.edges():
        due.append((("on", letter, label[source]), label[target]))
        if table.is_long(source):
            due.append((("back", letter, label[target], table.leads[source]), label[source]))
    found = {}
    for key, joined in due:
        if found.setdefault(key, joined) != joined:
            return False
    return True
