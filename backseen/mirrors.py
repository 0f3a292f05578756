"""Languages read backward, what stands behind a word or ahead of it, and other letters in the place of letters."""

from backseen.errors import BadValue, TooLarge
from backseen.machines import MOST_STATES, first_state, need_machine, state_after
from backseen.rounds import need_rows_question, words_of_rows
from backseen.tables import least_machine, sources_by_letter
from backseen.words import (
    ALPHABET, MOST_LISTED_LETTERS, is_over, is_tuple_of, need_letters, need_sample, need_word, word_place,
)


def all_sources(by_target, states):
    """Return the ascending tuple of the states from which one letter leads to one of the states."""
    return tuple(sorted({source: True for target in states for source in by_target[target]}))


def reversed_machine(machine):
    """Return the least machine of the words of the language read backward."""
    need_machine(machine)
    letters, rows, ends = machine
    sources = sources_by_letter(rows, len(letters))
    # Some word leads to each state, so each set but the empty one leads to an end, and no two have the same rest.
    sets = [ends] if len(ends) > 0 else []
    number = {(): None, ends: first_state(machine)}
    made = []
    while len(made) < len(sets):
        ahead = [all_sources(by_target, sets[len(made)]) for by_target in sources]
        for states in ahead:
            if states not in number:
                number[states] = len(sets)
                sets.append(states)
        if len(sets) > MOST_STATES:
            raise TooLarge("states")
        made.append(tuple([number[states] for states in ahead]))
    return letters, tuple(made), tuple([at for at, states in enumerate(sets) if 0 in states])


def reversed_sample(letters, sample):
    """Return the sample of the words read backward."""
    need_sample(letters, sample)
    return tuple(sorted([word[::-1] for word in sample], key=word_place))


def rest_of(machine, word):
    """Return the least machine of the rest of the word."""
    need_machine(machine)
    need_word(machine[0], word)
    letters, rows, ends = machine
    return least_machine(letters, rows, ends, state_after(machine, first_state(machine), word))


def completed_by(machine, word):
    """Return the least machine of the words that the word completes."""
    need_machine(machine)
    need_word(machine[0], word)
    letters, rows, ends = machine
    is_end = {end: True for end in ends}
    completed = [state for state in range(len(rows)) if state_after(machine, state, word) in is_end]
    return least_machine(letters, rows, completed, first_state(machine))


def are_names(value, many):
    """Tell whether the value is a text of so many different letters."""
    return is_over(ALPHABET, value) and len(value) == many and len(set(value)) == many


def renamed(machine, names):
    """Return the least machine of the language with the names in the place of the letters."""
    need_machine(machine)
    letters, rows, ends = machine
    if not are_names(names, len(letters)):
        raise BadValue("names")
    places = [names.index(letter) for letter in sorted(names)]
    named = [[row[at] for at in places] for row in rows]
    return least_machine("".join(sorted(names)), named, ends, first_state(machine))


def are_replacements(letters, many, value):
    """Tell whether the value is a tuple of so many words over the letters, each of at most 24 letters."""
    if not is_tuple_of(value, many, many):
        return False
    return all(is_over(letters, word) and len(word) <= MOST_LISTED_LETTERS for word in value)


def replaced_back(machine, letters, words):
    """Return the least machine of the words that the machine takes when each letter is replaced by its word."""
    need_machine(machine)
    need_letters(letters)
    if not are_replacements(machine[0], len(letters), words):
        raise BadValue("words")
    _, rows, ends = machine
    led = [[state_after(machine, state, word) for word in words] for state in range(len(rows))]
    return least_machine(letters, led, ends, first_state(machine))


def reversed_row(row, words, k):
    """Return a row of evidence, one of those that have the words, so that its word is read backward."""
    if row[0] == "seen":
        return "seen", row[1][::-1]
    _, one, two, three, many = row
    return "by", one, three, two, len(words[one]) - many + k


def reversed_rows(letters, sample, k, word, rows):
    """Return the evidence by rows for the word so that it is evidence for the word read backward."""
    need_rows_question(letters, sample, k, word)
    words = words_of_rows(sample, k, word, rows)
    if words is None:
        raise BadValue("rows")
    return tuple([reversed_row(row, words, k) for row in rows])
