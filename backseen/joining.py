"""The closure of the words of a sample: what must be in every language of a look that contains them."""

from backseen.errors import TooLarge
from backseen.machines import MOST_STATES, limited
from backseen.seen import Seen
from backseen.words import MOST_LOOK, need_sample, need_sample_and_look, need_word


def is_must(letters, sample, k, word):
    """Tell whether the word must be in, seen the sample, at the look k."""
    need_sample_and_look(letters, sample, k)
    need_word(letters, word)
    return Seen(letters, sample, k).has_word(word)


def greatest_look(letters, sample, word):
    """Return the greatest look at which the word must be in, or None if it is free at the look 0."""
    need_sample(letters, sample)
    need_word(letters, word)
    for k in range(MOST_LOOK, -1, -1):
        if Seen(letters, sample, k).has_word(word):
            return k
    return None


def classes(letters, sample, k):
    """Return the tuple of the classes of joined beginnings, in the order of the states of the seen machine."""
    need_sample_and_look(letters, sample, k)
    seen = Seen(letters, sample, k)
    words = seen.tree.words
    return tuple([tuple([words[at] for at in seen.class_members(state)]) for state in range(len(seen.rows))])


def seen_machine(letters, sample, k):
    """Return the seen machine, as it is."""
    need_sample_and_look(letters, sample, k)
    seen = Seen(letters, sample, k)
    if len(seen.rows) > MOST_STATES:
        raise TooLarge("looked")
    return seen.as_machine()


def closure(letters, sample, k):
    """Return the least machine of the closure of the sample."""
    need_sample_and_look(letters, sample, k)
    return limited(Seen(letters, sample, k).as_least())
