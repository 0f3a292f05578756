"""The looks of one language: the least one, or that there is none, and evidence of it."""

from backseen.comparing import first_telling
from backseen.errors import TooLarge
from backseen.looking import (
    are_asked_words, are_five, clash_pairs, five_words, in_order, keeps_property, pairs_ahead, shared_rest,
)
from backseen.machines import first_words_of, is_taken, least, need_machine, state_after
from backseen.tables import first_word_to, sources_by_letter
from backseen.words import is_integer_within, is_tuple_of

MOST_SINGLE_STATES = 20
MOST_LEAST_LOOK = 190


def need_small(machine):
    """Return the least machine of the language, or refuse what is no machine, or one with more than 20 states."""
    need_machine(machine)
    small = least(machine)
    if len(small[1]) > MOST_SINGLE_STATES:
        raise TooLarge("states")
    return small


def least_look_of(small):
    """Return the least look of the language of a least machine, or None."""
    letters, rows, _ = small
    sources = sources_by_letter(rows, len(letters))
    pairs = clash_pairs(small)
    # With more letters than there are pairs, some pair is come to twice, and so as often as one likes.
    for k in range(len(rows) * (len(rows) - 1) // 2 + 1):
        if len(pairs) == 0:
            return k
        pairs = pairs_ahead(sources, pairs)
    return None


def least_look(machine):
    """Return the least look of the language of the machine, or None if it is of no look."""
    return least_look_of(need_small(machine))


def pairs_from(small, pair):
    """Return the list of the letters that lead from two states to two different ones, each with these."""
    letters, rows, _ = small
    return [
        (letter, (one, other))
        for letter, one, other in zip(letters, rows[pair[0]], rows[pair[1]])
        if one is not None and other is not None and one != other
    ]


def loop_at(small, pair):
    """Return the first word of at least one letter that leads from each of two states back to it, or None."""

    # What is come to is numbered by whether a letter was read, so that the start is not yet the end of the loop.
    def following(place):
        return [(letter, (target, True)) for letter, target in pairs_from(small, place[0])]

    return first_word_to((pair, False), following, lambda place: place == (pair, True))


def word_to_clash(small, pair):
    """Return the first word that leads from two states to those of a clash, or None."""
    found = clash_pairs(small)

    def following(here):
        return pairs_from(small, here)

    return first_word_to(pair, following, lambda here: in_order(here[0], here[1]) in found)


def words_of_no_look(small):
    """Return evidence that the language of a least machine is of no look, which it is."""
    many = len(small[1])
    first = first_words_of(small)
    for pair in [(one, other) for one in range(many) for other in range(one + 1, many)]:
        loop, middle = loop_at(small, pair), word_to_clash(small, pair)
        if loop is not None and middle is not None:
            clash = state_after(small, pair[0], middle), state_after(small, pair[1], middle)
            w, z = shared_rest(small, clash), first_telling(small, small, clash)
            x, y = first[pair[0]], first[pair[1]]
            if not is_taken(small, x + middle + z):
                x, y = y, x
            return "none", x, y, loop, middle, w, z
    return None


def look_evidence(machine):
    """Return evidence of the least look of the language of the machine, or that it is of no look."""
    small = need_small(machine)
    k = least_look_of(small)
    if k is None:
        return words_of_no_look(small)
    return "look", k, () if k == 0 else five_words(small, k - 1)


def is_look_paper(small, k, five):
    """Tell whether k and the five words show that k is the least look of the language of a least machine."""
    if not is_integer_within(k, 0, MOST_LEAST_LOOK) or not keeps_property(small, k):
        return False
    if k == 0:
        return is_tuple_of(five, 0, 0)
    return are_five(small[0], k - 1, five, lambda word: is_taken(small, word))


def is_loop_behind(small, word, loop):
    """Tell whether the word leads to some state, and the loop from this state back to it."""
    state = state_after(small, 0, word)
    return state is not None and state_after(small, state, loop) == state


def is_none_paper(small, value):
    """Tell whether the six words show that the language of a least machine is of no look."""
    if len(small[1]) == 0 or not are_asked_words(small[0], value, 6):
        return False
    x, y, loop, middle, w, z = value
    if len(loop) == 0 or not is_loop_behind(small, x, loop) or not is_loop_behind(small, y, loop):
        return False
    if is_taken(small, y + middle + z) or not is_taken(small, x + middle + z):
        return False
    return is_taken(small, x + middle + w) and is_taken(small, y + middle + w)


def accepts_look(machine, value):
    """Tell whether the value is evidence of the least look of the language, or that it is of no look."""
    small = need_small(machine)
    if not is_tuple_of(value, 3, 7) or type(value[0]) != str:
        return False
    if value[0] == "look" and len(value) == 3:
        return is_look_paper(small, value[1], value[2])
    return value[0] == "none" and is_none_paper(small, value[1:])
