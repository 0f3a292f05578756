"""Which words two sides leave undecided: whether there are some, the first one, and how many of a length."""

from backseen.blocked import BlockedWords
from backseen.errors import BadValue, TooLarge
from backseen.grown import Grower
from backseen.machines import is_taken
from backseen.openings import Openings, least_words
from backseen.papers import MOST_ROWS
from backseen.sides import (
    MOST_JUDGED_LETTERS, clash_evidence, first_within, is_clash_paper, is_named, is_one_of, is_open_paper,
    need_sides_and_look, verdict_evidence,
)
from backseen.words import is_integer_within, is_over, is_tuple_of

MOST_CASE_STATES = 40
MOST_UNDECIDED_LETTERS = 200


def need_few_states(grower):
    """Refuse a seen machine with more than 40 states."""
    if len(grower.states) > MOST_CASE_STATES:
        raise TooLarge("cases")


def number_of_words(letters, length):
    """Return how many words over the letters have this number of letters."""
    words = 1
    for _ in range(length):
        words = words * len(letters)
    return words


def is_open_anyway(grower):
    """Tell whether some word is undecided whatever words are out, as (1) of point 125 asks."""
    states = grower.states
    if not any([len(grower.lacking(state)) > 0 for state in states]):
        return False
    if any([grower.table.is_long(state) and len(grower.lacking(state)) > 0 for state in states]):
        return True
    leads = {grower.leads[end]: True for end in grower.machine[2] if grower.table.is_long(end)}
    return len(leads) < number_of_words(grower.letters, grower.look)


def due_ways(grower, state):
    """Return the list of the due cases of new ways from a short state; it is not long unless (1) holds."""
    room = grower.look - len(grower.leads[state])
    found = []
    ways = grower.lacking(state)
    for length in range(1, room + 1):
        if length < room:
            found.extend([("way", state, way, None) for way in ways])
        else:
            found.extend([
                ("way", state, way, goal) for way in ways for goal in grower.states
                if grower.leads[goal] == grower.leads[state] + way
            ])
        ways = [way + letter for way in ways for letter in grower.letters]
    return found


def due_cases(grower):
    """Return the list of the due cases."""
    states = grower.states
    found = [("end", state) for state in states if not grower.has_end_alike(state)]
    found.extend([
        ("join", one, other) for one in states for other in states if one < other and grower.are_joinable(one, other)
    ])
    for state in states:
        found.extend(due_ways(grower, state))
    return found


def is_some_undecided(grower, outside):
    """Tell whether some word is undecided for sides that are apart."""
    if len(grower.states) == 0 or is_open_anyway(grower):
        return True
    return any([grower.first_taken(change, outside) is None for change in due_cases(grower)])


def is_any_undecided(letters, sample, outside, k):
    """Tell whether some word is undecided."""
    need_sides_and_look(letters, sample, outside, k)
    grower = Grower(letters, sample, k)
    return first_within(grower.seen, outside) is None and is_some_undecided(grower, outside)


def first_not_out(letters, outside):
    """Return the first word that is not one of those that are out."""
    length = 0
    while True:
        # One word more than there can be among those that are out.
        for word in least_words(letters, length, len(outside) + 1):
            if word not in outside:
                return word
        length += 1


def first_of_undecided(grower, outside):
    """Return the first undecided word, or None."""
    if first_within(grower.seen, outside) is not None:
        return None
    if len(grower.states) == 0:
        return first_not_out(grower.letters, outside)
    return Openings(grower, outside).first_word()


def first_undecided(letters, sample, outside, k):
    """Return the first undecided word, or None."""
    need_sides_and_look(letters, sample, outside, k)
    grower = Grower(letters, sample, k)
    need_few_states(grower)
    return first_of_undecided(grower, outside)


def count_undecided(letters, sample, outside, k, length):
    """Return how many undecided words have this number of letters."""
    need_sides_and_look(letters, sample, outside, k)
    if not is_integer_within(length, 0, MOST_UNDECIDED_LETTERS):
        raise BadValue("length")
    grower = Grower(letters, sample, k)
    need_few_states(grower)
    if first_within(grower.seen, outside) is not None:
        return 0
    words = number_of_words(letters, length)
    if len(grower.states) == 0:
        return words - len([word for word in outside if len(word) == length])
    counted = BlockedWords(Openings(grower, outside), length)
    return words - counted.many_taken() - counted.many_in_all()


def undecided_paper(letters, sample, outside, k):
    """Return evidence whether some word is undecided."""
    need_sides_and_look(letters, sample, outside, k)
    grower = Grower(letters, sample, k)
    need_few_states(grower)
    clashing = first_within(grower.seen, outside)
    if clashing is not None:
        return clash_evidence("clash", grower.seen, clashing)
    word = first_of_undecided(grower, outside)
    if word is None:
        return "none", tuple([change + (grower.first_taken(change, outside),) for change in due_cases(grower)])
    _, one, other = verdict_evidence(letters, sample, outside, k, word)
    return "some", word, one, other


def is_some_paper(letters, sample, outside, k, value):
    """Tell whether the value is evidence that some word is undecided."""
    if not is_named(value, "some", 4):
        return False
    _, word, one, other = value
    if not is_over(letters, word) or len(word) > MOST_JUDGED_LETTERS:
        return False
    return is_open_paper(letters, sample, outside, k, word, ("open", one, other))


def is_simple(value):
    """Tell whether the value is None, an integer or a text, and so can be compared and looked up."""
    return value is None or type(value) == int or type(value) == str


def are_due_rows(grower, outside, rows):
    """Tell whether the rows are due cases with words that are out and then taken, and all due cases are there."""
    if not is_tuple_of(rows, 0, MOST_ROWS):
        return False
    due = {change: True for change in due_cases(grower)}
    found = {}
    shown = {}
    for row in rows:
        if not is_tuple_of(row, 3, 5) or not all(is_simple(item) for item in row):
            return False
        change, word = row[:-1], row[-1]
        if change not in due or not is_one_of(outside, word):
            return False
        if row not in shown:
            shown[row] = is_taken(grower.with_change(change), word)
        if not shown[row]:
            return False
        found[change] = True
    return len(found) == len(due)


def is_none_paper(letters, sample, outside, k, value):
    """Tell whether the value is evidence that no word is undecided, though the sides are apart."""
    if not is_named(value, "none", 2) or len(sample) == 0:
        return False
    grower = Grower(letters, sample, k)
    if first_within(grower.seen, outside) is not None or is_open_anyway(grower):
        return False
    return are_due_rows(grower, outside, value[1])


def accepts_undecided(letters, sample, outside, k, value):
    """Tell whether the value is evidence whether some word is undecided."""
    need_sides_and_look(letters, sample, outside, k)
    if is_clash_paper(letters, sample, outside, k, value) or is_none_paper(letters, sample, outside, k, value):
        return True
    return is_some_paper(letters, sample, outside, k, value)
