"""Counting and listing the words that a table takes."""


def first_counts(many, ends):
    """Return, for each row, how many words of no letters lead from it to an end."""
    is_end = {end: True for end in ends}
    return [1 if at in is_end else 0 for at in range(many)]


def longer_counts(rows, counts):
    """Return, for each row, how many words lead from it to an end that have one letter more than those counted."""
    return [sum([counts[target] for target in row if target is not None]) for row in rows]


def counts_by_length(rows, ends, length):
    """Return the list of the counts for 0, 1, 2 and so on to `length` letters, each with a number for each row."""
    counts = [first_counts(len(rows), ends)]
    for _ in range(length):
        counts.append(longer_counts(rows, counts[-1]))
    return counts


def count_of_words(rows, ends, length):
    """Return how many words of at most `length` letters lead from row 0 to an end."""
    if len(rows) == 0:
        return 0
    return sum([counts[0] for counts in counts_by_length(rows, ends, length)])
