"""Looking back: whether a machine has the property at a look, and whether its language is of this look."""

from backseen.comparing import first_telling
from backseen.machines import first_words_of, is_taken, last_words_of, least, need_machine
from backseen.tables import sources_by_letter
from backseen.words import MOST_ASKED_LETTERS, is_over, is_tuple_of, need_look


def in_order(one, other):
    """Return the pair of two different states with the smaller one first."""
    return (one, other) if one < other else (other, one)


def pairs_among(states):
    """Return the list of the pairs of states of an ascending list."""
    return [(states[at], states[later]) for at in range(len(states)) for later in range(at + 1, len(states))]


def clash_pairs(machine):
    """Return the clashes of the machine as the keys of a dict."""
    letters, rows, ends = machine
    found = {pair: True for pair in pairs_among(ends)}
    for sources in sources_by_letter(rows, len(letters)):
        for states in sources:
            for pair in pairs_among(states):
                found[pair] = True
    return found


def pairs_ahead(sources, pairs):
    """Return the pairs from which one letter leads to the states of one of the pairs, as the keys of a dict."""
    found = {}
    for one, other in pairs:
        for by_target in sources:
            for source in by_target[one]:
                for other_source in by_target[other]:
                    found[in_order(source, other_source)] = True
    return found


def pairs_by_letters(machine, k):
    """Return the list of the pairs that are 0, 1, 2 and so on to k letters ahead of a clash, each as dict keys."""
    letters, rows, _ = machine
    sources = sources_by_letter(rows, len(letters))
    found = [clash_pairs(machine)]
    for _ in range(k):
        # Equal pairs stay equal from there on; this spares large machines most of the work.
        if len(found) > 1 and found[-1] == found[-2]:
            found.append(found[-1])
        else:
            found.append(pairs_ahead(sources, found[-1]))
    return found


def keeps_property(machine, k):
    """Tell whether no pair of states of the machine is k letters ahead of a clash."""
    return len(pairs_by_letters(machine, k)[k]) == 0


def clashes(machine):
    """Return the ascending tuple of the clashes."""
    need_machine(machine)
    return tuple(sorted(clash_pairs(machine)))


def pairs_back(machine, k):
    """Return the ascending tuple of the pairs that are k letters ahead of a clash."""
    need_machine(machine)
    need_look(k)
    return tuple(sorted(pairs_by_letters(machine, k)[k]))


def has_property(machine, k):
    """Tell whether the machine has the property at k."""
    need_machine(machine)
    need_look(k)
    return keeps_property(machine, k)


def is_of_look(machine, k):
    """Tell whether the language of the machine is of look k."""
    need_machine(machine)
    need_look(k)
    return keeps_property(least(machine), k)


def letter_towards(machine, pair, pairs):
    """Return a letter that leads from the states of the pair to those of one of the pairs, and these, in this order."""
    letters, rows, _ = machine
    for letter, target, other_target in zip(letters, rows[pair[0]], rows[pair[1]]):
        if target is not None and other_target is not None and in_order(target, other_target) in pairs:
            return letter, (target, other_target)
    return None


def way_to_clash(machine, pair, pairs_at):
    """Return a word that leads from the states of the pair to those of a clash, and these, in this order.

    `pairs_at` has the pairs that are 0, 1, 2 and so on letters ahead of a clash; the given pair is one of the last.
    """
    word = ""
    for pairs in pairs_at[-2::-1]:
        letter, pair = letter_towards(machine, pair, pairs)
        word = word + letter
    return word, pair


def shared_rest(machine, clash):
    """Return a word that leads from both states of a clash to ends."""
    letters, rows, ends = machine
    one, other = clash
    if one in ends and other in ends:
        return ""
    last = last_words_of(machine)
    for letter, target, other_target in zip(letters, rows[one], rows[other]):
        if target is not None and target == other_target:
            return letter + last[target]
    return None


def five_words(small, k):
    """Return five words against the look k for a least machine, or None if its language is of look k."""
    pairs_at = pairs_by_letters(small, k)
    if len(pairs_at[k]) == 0:
        return None
    pair = min(pairs_at[k])
    middle, clash = way_to_clash(small, pair, pairs_at)
    first = first_words_of(small)
    x, y = first[pair[0]], first[pair[1]]
    z = first_telling(small, small, clash)
    if not is_taken(small, x + middle + z):
        x, y = y, x
    return x, y, middle, shared_rest(small, clash), z


def five_against(machine, k):
    """Return five words against the look k, or None if the language of the machine is of look k."""
    need_machine(machine)
    need_look(k)
    return five_words(least(machine), k)


def are_asked_words(letters, value, many):
    """Tell whether the value is a tuple of so many words over the letters, each of at most 500 letters."""
    if not is_tuple_of(value, many, many):
        return False
    return all(is_over(letters, word) and len(word) <= MOST_ASKED_LETTERS for word in value)


def are_five(letters, k, value, is_in):
    """Tell whether the value is five words against the look k, where `is_in` tells which words are in the language."""
    if not are_asked_words(letters, value, 5):
        return False
    x, y, v, w, z = value
    if len(v) != k or is_in(y + v + z):
        return False
    return is_in(x + v + w) and is_in(y + v + w) and is_in(x + v + z)


def accepts_five(machine, k, value):
    """Tell whether the value is five words against the look k."""
    need_machine(machine)
    need_look(k)
    return are_five(machine[0], k, value, lambda word: is_taken(machine, word))
