"""Evidence that a word must be in or is free, and evidence for all joins of beginnings."""

from backseen.joined import are_complete, groups_of_rows, is_led_way
from backseen.looking import keeps_property
from backseen.machines import is_machine, is_taken, limited
from backseen.seen import Beginnings, Seen
from backseen.words import is_tuple_of, need_sample_and_look, need_word

MOST_ROWS = 2500


def row_in_words(tree, entry):
    """Return an entry of the log of the joins as a row of evidence."""
    rule, one, other, letter = entry
    if rule == "ends":
        return rule, tree.words[one], tree.words[other]
    return rule, tree.words[one], tree.words[other], tree.letters[letter]


def rows_of_joins(seen):
    """Return the rows of evidence that join all that is joined."""
    return tuple([row_in_words(seen.tree, entry) for entry in seen.joiner.log])


def way_of(seen, word, states):
    """Return the way of a word that must be in, whose states in the seen machine are these."""
    return tuple([seen.tree.words[at] for at in seen.way_along(word, states)])


def must_evidence(seen, word):
    """Return evidence that a word of the closure must be in."""
    return "must", rows_of_joins(seen), way_of(seen, word, seen.states_along(word))


def paper_for(letters, sample, k, word):
    """Return evidence that the word must be in, or that it is free."""
    need_sample_and_look(letters, sample, k)
    need_word(letters, word)
    seen = Seen(letters, sample, k)
    return must_evidence(seen, word) if seen.has_word(word) else ("free", limited(seen.as_least()))


def joins_for(letters, sample, k):
    """Return a paper of the joins, in which every row joins what the rows before it have not joined."""
    need_sample_and_look(letters, sample, k)
    return rows_of_joins(Seen(letters, sample, k))


def entry_of_row(tree, row):
    """Return a row of evidence with numbers in the place of words and letter, or None if it has not the form of one."""
    if not is_tuple_of(row, 3, 4) or not all(type(item) == str for item in row):
        return None
    if row[0] not in (("ends",) if len(row) == 3 else ("on", "back")):
        return None
    if row[1] not in tree.number or row[2] not in tree.number:
        return None
    one, other = tree.number[row[1]], tree.number[row[2]]
    if len(row) == 3:
        return row[0], one, other, None
    if len(row[3]) != 1 or row[3] not in tree.letters:
        return None
    return row[0], one, other, tree.letters.index(row[3])


def groups_of_paper(tree, value):
    """Return what the rows of evidence have joined, or None if the value is not rows that are all good."""
    if not is_tuple_of(value, 0, MOST_ROWS):
        return None
    entries = [entry_of_row(tree, row) for row in value]
    if None in entries:
        return None
    return groups_of_rows(tree.table, entries)


def is_way(tree, groups, word, value):
    """Tell whether the value is a way of the word by what the groups have joined."""
    if not is_tuple_of(value, len(word) + 1, len(word) + 1):
        return False
    if not all(type(item) == str and item in tree.number for item in value):
        return False
    return is_led_way(tree.table, groups, tree.letters, word, [tree.number[item] for item in value])


def is_must_paper(tree, word, rows, way):
    """Tell whether the rows and the way are evidence that the word must be in."""
    groups = groups_of_paper(tree, rows)
    return groups is not None and is_way(tree, groups, word, way)


def is_fitting(letters, sample, outside, k, value):
    """Tell whether the value is a machine with the property at k that takes the words of the sample, none outside."""
    if not is_machine(value) or value[0] != letters:
        return False
    if not all(is_taken(value, word) for word in sample) or any(is_taken(value, word) for word in outside):
        return False
    return keeps_property(value, k)


def accepts_paper(letters, sample, k, word, value):
    """Tell whether the value is evidence that the word must be in, or that it is free."""
    need_sample_and_look(letters, sample, k)
    need_word(letters, word)
    if not is_tuple_of(value, 2, 3) or type(value[0]) != str:
        return False
    if value[0] == "must" and len(value) == 3:
        return is_must_paper(Beginnings(letters, sample, k), word, value[1], value[2])
    return value[0] == "free" and len(value) == 2 and is_fitting(letters, sample, (word,), k, value[1])


def accepts_joins(letters, sample, k, value):
    """Tell whether the value is a paper of the joins."""
    need_sample_and_look(letters, sample, k)
    tree = Beginnings(letters, sample, k)
    groups = groups_of_paper(tree, value)
    return groups is not None and are_complete(tree.table, groups)
