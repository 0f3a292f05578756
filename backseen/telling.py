"""Telling a language by words: the first sample, whether a sample tells it, and which words are needed."""

from backseen.errors import NotPossible, TooLarge
from backseen.looked import Looked
from backseen.looking import keeps_property
from backseen.machines import first_words_of, is_machine, is_taken, last_words_of, least, limited, need_machine
from backseen.needing import Cuts, without_word
from backseen.seen import Seen
from backseen.words import (
    alike, is_integer_within, is_over, is_sample, is_tuple_of, need_look, need_sample, need_word, word_place,
)


def need_machine_and_look(machine, k):
    """Refuse what is not a machine and a look, the first wrong one first."""
    need_machine(machine)
    need_look(k)


def least_of_look(machine, k):
    """Return the least machine of the language, which has to be of look k."""
    small = least(machine)
    if not keeps_property(small, k):
        raise NotPossible("look")
    return small


def telling_number_of(looked):
    """Return the telling number of a language with these looked states."""
    if len(looked.rows) == 0:
        return 0
    edges = sum([1 for row in looked.rows for target in row if target is not None])
    return edges + len(looked.ends) - len(looked.rows) + 1


def telling_number(machine, k):
    """Return the telling number of the language at k."""
    need_machine_and_look(machine, k)
    return telling_number_of(Looked(least_of_look(machine, k), k))


def words_of_first_sample(looked):
    """Return the ascending tuple of the words of the first sample, be it a sample or not."""
    machine = looked.letters, looked.rows, looked.ends
    firsts, lasts = first_words_of(machine), last_words_of(machine)
    words = [firsts[end] for end in looked.ends]
    for first, row in zip(firsts, looked.rows):
        for letter, target in zip(looked.letters, row):
            if target is not None and first + letter != firsts[target]:
                words.append(first + letter + lasts[target])
    return tuple(sorted(words, key=word_place))


def first_sample_of(looked):
    """Return the first sample of a language with these looked states, which has to be a sample."""
    words = words_of_first_sample(looked)
    if not is_sample(looked.letters, words):
        raise TooLarge("words")
    return words


def first_sample(machine, k):
    """Return the first sample of the language at k."""
    need_machine_and_look(machine, k)
    return first_sample_of(Looked(least_of_look(machine, k), k))


def is_told(small, k, sample):
    """Tell whether the closure of the sample at k is the language of a least machine."""
    return Seen(small[0], sample, k).as_least() == small


def tells(machine, k, sample):
    """Tell whether the sample tells the language at k."""
    need_machine_and_look(machine, k)
    need_sample(machine[0], sample)
    # What a closure has to be is of look k, so no sample tells another language.
    return is_told(least(machine), k, sample)


def thinned(machine, k, sample):
    """Return what is left of a sample that tells the language, when no word of it can be left out any more."""
    need_machine_and_look(machine, k)
    need_sample(machine[0], sample)
    small = least_of_look(machine, k)
    if not is_told(small, k, sample):
        raise NotPossible("sample")
    kept = sample
    for word in sample[::-1]:
        others = tuple([other for other in kept if other != word])
        # Words tell what they told with this word if and only if it is in their closure.
        if Seen(machine[0], others, k).has_word(word):
            kept = others
    return kept


def need_word_within(small, word):
    """Refuse a word that is not in the language."""
    if not is_taken(small, word):
        raise NotPossible("word")


def is_needed(machine, k, word):
    """Tell whether every finite set of words that tells the language at k contains the word."""
    need_machine_and_look(machine, k)
    need_word(machine[0], word)
    small = least_of_look(machine, k)
    need_word_within(small, word)
    return Cuts(small, k).free_cut(word) is None


def needed_words(machine, k):
    """Return the ascending tuple of the needed words."""
    need_machine_and_look(machine, k)
    small = least_of_look(machine, k)
    words = first_sample_of(Looked(small, k))
    cuts = Cuts(small, k)
    return tuple([word for word in words if cuts.free_cut(word) is None])


def needed_paper(machine, k, word):
    """Return evidence whether the word is needed."""
    need_machine_and_look(machine, k)
    need_word(machine[0], word)
    small = least_of_look(machine, k)
    need_word_within(small, word)
    cuts = Cuts(small, k)
    at = cuts.free_cut(word)
    if at is None:
        return "needed", limited(without_word(small, word))
    one, two, three, place = cuts.step_to(word, at)
    return "not needed", one, two, three, place


def is_needed_paper(small, k, word, value):
    """Tell whether the value is a machine with the property at k of the language without the word."""
    return is_machine(value) and keeps_property(value, k) and least(value) == without_word(small, word)


def is_other_word(small, word, value):
    """Tell whether the value is a word of the language, and not the given one."""
    return is_over(small[0], value) and value != word and is_taken(small, value)


def is_step_paper(small, k, word, value):
    """Tell whether the three words and the place are those of a step that makes the word."""
    one, two, three, place = value
    if not all([is_other_word(small, word, other) for other in (one, two, three)]):
        return False
    if not is_integer_within(place, k, len(one)) or not three.startswith(one[:place]):
        return False
    rest = one[place:]
    if not two.endswith(rest):
        return False
    begun = two[:len(two) - len(rest)]
    return alike(begun, one[:place], k) and begun + three[place:] == word


def accepts_needed(machine, k, word, value):
    """Tell whether the value is evidence whether the word is needed."""
    need_machine_and_look(machine, k)
    need_word(machine[0], word)
    small = least_of_look(machine, k)
    need_word_within(small, word)
    if not is_tuple_of(value, 2, 5) or type(value[0]) != str:
        return False
    if value[0] == "needed" and len(value) == 2:
        return is_needed_paper(small, k, word, value[1])
    return value[0] == "not needed" and len(value) == 5 and is_step_paper(small, k, word, value[1:])
