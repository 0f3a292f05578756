"""Machines: their form, the words that they take, and the least machine of a language."""

from backseen.errors import BadValue, TooLarge
from backseen.tables import least_machine, letters_to_end, order_from
from backseen.words import beginnings_of, is_integer_within, is_letters, is_over, is_tuple_of, need_letters, need_sample

MOST_STATES = 400


def is_state(value, many):
    """Tell whether the value is the index of one of so many rows."""
    return is_integer_within(value, 0, many - 1)


def is_row(value, many_letters, many):
    """Tell whether the value is a row of a table with so many rows."""
    if not is_tuple_of(value, many_letters, many_letters):
        return False
    return all(target is None or is_state(target, many) for target in value)


def are_rows(value, many_letters):
    """Tell whether the value is a tuple of at most 400 rows, each of so many letters."""
    if not is_tuple_of(value, 0, MOST_STATES):
        return False
    return all(is_row(row, many_letters, len(value)) for row in value)


def are_ends(value, many):
    """Tell whether the value is an ascending tuple of different indexes of so many rows."""
    if not is_tuple_of(value, 0, many) or not all(is_state(end, many) for end in value):
        return False
    return all([value[at] < value[at + 1] for at in range(len(value) - 1)])


def is_machine(value):
    """Tell whether the value is a machine."""
    if not is_tuple_of(value, 3, 3):
        return False
    letters, rows, ends = value
    if not is_letters(letters) or not are_rows(rows, len(letters)) or not are_ends(ends, len(rows)):
        return False
    if len(rows) == 0:
        return True
    return order_from(rows, 0) == list(range(len(rows))) and None not in letters_to_end(rows, ends)


def need_machine(machine):
    """Refuse what is not a machine."""
    if not is_machine(machine):
        raise BadValue("machine")


def need_two_machines(machine, other):
    """Refuse what are not two machines over the same letters."""
    need_machine(machine)
    if not is_machine(other) or other[0] != machine[0]:
        raise BadValue("other")


def need_any_word(machine, word):
    """Refuse what is not a word over the letters of the machine, of any number of letters."""
    if not is_over(machine[0], word):
        raise BadValue("word")


def state_after(machine, start, word):
    """Return the state to which the word leads from the state `start`, or None."""
    letters, rows, _ = machine
    state = start
    for letter in word:
        if state is None:
            return None
        state = rows[state][letters.index(letter)]
    return state


def first_state(machine):
    """Return the state 0, or None if there is none."""
    return 0 if len(machine[1]) > 0 else None


def is_taken(machine, word):
    """Tell whether the machine takes the word."""
    return state_after(machine, first_state(machine), word) in machine[2]


def state_behind(machine, word):
    """Return the state to which the word leads from state 0, or None."""
    need_machine(machine)
    need_any_word(machine, word)
    return state_after(machine, first_state(machine), word)


def takes(machine, word):
    """Tell whether the machine takes the word."""
    need_machine(machine)
    need_any_word(machine, word)
    return is_taken(machine, word)


def first_words_of(machine):
    """Return the list of the first words of the states."""
    letters, rows, _ = machine
    words = ["" for _ in rows]
    # A state is numbered behind the state from which its first word comes.
    found = {0: True}
    for source, row in enumerate(rows):
        for letter, target in zip(letters, row):
            if target is not None and target not in found:
                found[target] = True
                words[target] = words[source] + letter
    return words


def last_words_of(machine):
    """Return the list of the last words of the states."""
    letters, rows, ends = machine
    many = letters_to_end(rows, ends)
    words = ["" for _ in rows]
    for state in sorted(range(len(rows)), key=lambda at: many[at]):
        for letter, target in zip(letters[::-1], rows[state][::-1]):
            if target is not None and many[target] == many[state] - 1:
                words[state] = letter + words[target]
    return words


def first_words(machine):
    """Return the tuple of the first words of the states."""
    need_machine(machine)
    return tuple(first_words_of(machine))


def last_words(machine):
    """Return the tuple of the last words of the states."""
    need_machine(machine)
    return tuple(last_words_of(machine))


def least(machine):
    """Return the least machine of the language of the machine."""
    letters, rows, ends = machine
    return least_machine(letters, rows, ends, first_state(machine))


def limited(machine):
    """Return the machine, or refuse it if it has more than 400 states."""
    if len(machine[1]) > MOST_STATES:
        raise TooLarge("states")
    return machine


def is_least(machine):
    """Tell whether the machine is the least one of its language."""
    need_machine(machine)
    return len(least(machine)[1]) == len(machine[1])


def least_of(machine):
    """Return the least machine of the language of the machine."""
    need_machine(machine)
    return least(machine)


def machine_from(letters, rows, ends, start):
    """Return the least machine of the table."""
    need_letters(letters)
    if not are_rows(rows, len(letters)):
        raise BadValue("rows")
    if not are_ends(ends, len(rows)):
        raise BadValue("ends")
    if start is not None and not is_state(start, len(rows)):
        raise BadValue("start")
    return least_machine(letters, rows, ends, start)


def tree_table(letters, words, sample):
    """Return the rows and the ends of the tree of a sample, whose beginnings are `words`."""
    number = {word: at for at, word in enumerate(words)}
    rows = [tuple([number.get(word + letter) for letter in letters]) for word in words]
    return tuple(rows), tuple([number[word] for word in sample])


def tree_of(letters, sample):
    """Return the tree of the sample."""
    need_sample(letters, sample)
    rows, ends = tree_table(letters, beginnings_of(sample), sample)
    return limited((letters, rows, ends))
