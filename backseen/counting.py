"""Counting the words of a machine, and how their number grows with the number of letters."""

from backseen.errors import BadValue, TooLarge
from backseen.growth import Loops
from backseen.machines import (
    first_state, first_words_of, is_taken, last_words_of, least, need_machine, state_after,
)
from backseen.tallies import count_of_words, counts_by_length, first_counts, longer_counts
from backseen.words import MOST_ASKED_LETTERS, is_integer_within, is_over, is_tuple_of, need_word

MOST_EVIDENCE_LETTERS = 1000


def need_length(length):
    """Refuse what is not an integer from 0 to 500."""
    if not is_integer_within(length, 0, MOST_ASKED_LETTERS):
        raise BadValue("length")


def count_at(machine, length):
    """Return how many words of exactly `length` letters the machine takes."""
    need_machine(machine)
    need_length(length)
    if len(machine[1]) == 0:
        return 0
    return counts_by_length(machine[1], machine[2], length)[length][0]


def count_up_to(machine, length):
    """Return how many words of at most `length` letters the machine takes."""
    need_machine(machine)
    need_length(length)
    return count_of_words(machine[1], machine[2], length)


def word_by_number(machine, counts, index):
    """Return the word with the number `index` among the words of as many letters as the counts go up to."""
    letters, rows, _ = machine
    word = ""
    state = 0
    for ahead in counts[-2::-1]:
        for letter, target in zip(letters, rows[state]):
            if target is not None:
                if index < ahead[target]:
                    word = word + letter
                    state = target
                    break
                index -= ahead[target]
    return word


def nth_word(machine, index):
    """Return the word of the machine with the number `index`, or None if there are not so many."""
    need_machine(machine)
    if type(index) != int or index < 0:
        raise BadValue("index")
    rows = machine[1]
    if len(rows) == 0:
        return None
    counts = [first_counts(len(rows), machine[2])]
    while index >= counts[-1][0]:
        index -= counts[-1][0]
        if len(counts) > MOST_ASKED_LETTERS:
            if is_endless(Loops(machine)):
                raise TooLarge("word")
            return None
        counts.append(longer_counts(rows, counts[-1]))
    return word_by_number(machine, counts, index)


def count_ahead(machine, word):
    """Return how many words of the machine come before the word."""
    letters, rows, ends = machine
    if len(rows) == 0:
        return 0
    counts = counts_by_length(rows, ends, len(word))
    many = sum([shorter[0] for shorter in counts[:-1]])
    state = 0
    for letter, ahead in zip(word, counts[-2::-1]):
        for lesser, target in zip(letters, rows[state]):
            if lesser < letter and target is not None:
                many += ahead[target]
        state = rows[state][letters.index(letter)]
        if state is None:
            break
    return many


def count_before(machine, word):
    """Return how many words of the machine come before the word."""
    need_machine(machine)
    need_word(machine[0], word)
    return count_ahead(machine, word)


def index_of(machine, word):
    """Return the number of the word among the words of the machine, or None if it is none of them."""
    need_machine(machine)
    need_word(machine[0], word)
    return count_ahead(machine, word) if is_taken(machine, word) else None


def is_endless(loops):
    """Tell whether some state leads back to itself."""
    return any(len(inner) > 0 for inner in loops.inner)


def longest_word(machine):
    """Return the greatest word of the machine, or None if it takes none or infinitely many."""
    need_machine(machine)
    loops = Loops(machine)
    if len(loops.rows) == 0 or is_endless(loops):
        return None
    words = ["" for _ in loops.rows]
    for state in loops.states_backward():
        # The letters ascend: of words of equally many letters the last one that is come to is the greatest.
        for letter, target in loops.edges_from(state):
            if len(words[target]) + 1 >= len(words[state]):
                words[state] = letter + words[target]
    return words[0]


def loop_of(machine):
    """Return three words of which the second one can be repeated, or None if the language is not endless."""
    need_machine(machine)
    small = least(machine)
    loops = Loops(small)
    for state in range(len(loops.rows)):
        if loops.is_busy(state):
            return first_words_of(small)[state], loops.first_loop(state), last_words_of(small)[state]
    return None


def is_narrow(machine):
    """Tell whether the machine has no double loop."""
    need_machine(machine)
    return Loops(machine).wide_state() is None


def growth_degree(machine):
    """Return the degree of the machine, or None if it is not narrow."""
    need_machine(machine)
    loops = Loops(machine)
    if loops.wide_state() is not None:
        return None
    return loops.levels[0] if len(loops.rows) > 0 else 0


def double_loop(machine, loops, state):
    """Return the four words of a double loop at a state of which two letters begin words leading back to it."""
    one, other = [
        loops.letters[at] + loops.first_way(loops.rows[state][at], state) for at in loops.inner[state][:2]
    ]
    # Either one of the two loops behind the other one: so there are as many letters.
    return first_words_of(machine)[state], one + other, other + one, last_words_of(machine)[state]


def row_of_loops(machine, loops):
    """Return a row of loops for the layers of a narrow machine."""
    row = []
    state = 0
    for level in range(loops.levels[0], 0, -1):
        way = loops.first_way_to_level(state, level)
        state = state_after(machine, state, way)
        row.append(way)
        row.append(loops.first_loop(state))
    row.append(last_words_of(machine)[state])
    return tuple(row)


def growth_evidence(machine):
    """Return evidence about the growth of the machine."""
    need_machine(machine)
    loops = Loops(machine)
    if len(loops.rows) == 0:
        return "narrow", (), ()
    state = loops.wide_state()
    if state is not None:
        x, one, other, y = double_loop(machine, loops, state)
        return "wide", x, one, other, y
    return "narrow", tuple(loops.layers()), row_of_loops(machine, loops)


def are_evidence_words(letters, value):
    """Tell whether all items are words over the letters that may stand in evidence."""
    return all(is_over(letters, word) and len(word) <= MOST_EVIDENCE_LETTERS for word in value)


def busy_layers(machine, layers):
    """Return the ascending list of the busy ones of the layers, or None if these are no layers of the machine."""
    busy = {}
    for state, row in enumerate(machine[1]):
        targets = [target for target in row if target is not None]
        if any(layers[target] > layers[state] for target in targets):
            return None
        level = [target for target in targets if layers[target] == layers[state]]
        if len(level) > 1:
            return None
        if len(level) == 1:
            busy[layers[state]] = True
    return sorted(busy)


def is_row_of_loops(machine, layers, row):
    """Tell whether the words, as many as the layers ask for, are a row of loops for them."""
    state = state_after(machine, 0, row[0])
    layer = None
    for at in range(1, len(row), 2):
        if state is None or len(row[at]) == 0 or state_after(machine, state, row[at]) != state:
            return False
        if layer is not None and layers[state] >= layer:
            return False
        layer = layers[state]
        state = state_after(machine, state, row[at + 1])
    return state in machine[2]


def is_narrow_paper(machine, layers, row):
    """Tell whether the two values are layers of the machine and a row of loops for them."""
    many = len(machine[1])
    if not is_tuple_of(layers, many, many) or not all(type(layer) == int for layer in layers):
        return False
    if many == 0:
        return is_tuple_of(row, 0, 0)
    busy = busy_layers(machine, layers)
    if busy is None or not is_tuple_of(row, 2 * len(busy) + 1, 2 * len(busy) + 1):
        return False
    return are_evidence_words(machine[0], row) and is_row_of_loops(machine, layers, row)


def is_double_loop(machine, words):
    """Tell whether the four words are a double loop of the machine."""
    if first_state(machine) is None or not are_evidence_words(machine[0], words):
        return False
    x, one, other, y = words
    if one == other or len(one) != len(other):
        return False
    state = state_after(machine, 0, x)
    if state_after(machine, state, y) not in machine[2]:
        return False
    return state_after(machine, state, one) == state and state_after(machine, state, other) == state


def accepts_growth(machine, value):
    """Tell whether the value is evidence about the growth of the machine."""
    need_machine(machine)
    if not is_tuple_of(value, 3, 5) or type(value[0]) != str:
        return False
    if value[0] == "narrow" and len(value) == 3:
        return is_narrow_paper(machine, value[1], value[2])
    return value[0] == "wide" and len(value) == 5 and is_double_loop(machine, value[1:])
