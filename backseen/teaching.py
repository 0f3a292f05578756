"""Teaching a language: evidence whether a sample tells it, and the least that has to be told of it."""

from backseen.comparing import first_outside
from backseen.errors import NotPossible
from backseen.looked import Looked
from backseen.looking import pairs_by_letters
from backseen.machines import is_taken, least, limited, need_machine
from backseen.papers import groups_of_paper, is_fitting, is_way, rows_of_joins, way_of
from backseen.seen import Beginnings, Seen
from backseen.telling import first_sample_of, least_of_look, need_machine_and_look, words_of_first_sample
from backseen.wholes import first_added
from backseen.words import MOST_LOOK, is_over, is_tuple_of, need_sample


def first_not_within(small, sample):
    """Return the first word of the sample that is not in the language, or None."""
    for word in sample:
        if not is_taken(small, word):
            return word
    return None


def tells_paper(machine, k, sample):
    """Return evidence whether the sample tells the language at k."""
    need_machine_and_look(machine, k)
    need_sample(machine[0], sample)
    small = least_of_look(machine, k)
    looked = Looked(small, k)
    strange = first_not_within(small, sample)
    if strange is not None:
        return "not within", strange
    seen = Seen(machine[0], sample, k)
    closed = seen.as_least()
    if closed != small:
        limited(closed)
        return "too little", first_outside(small, closed), closed
    ways = [way_of(seen, word, seen.states_along(word)) for word in first_sample_of(looked)]
    return "tells", rows_of_joins(seen), tuple(ways)


def is_telling_paper(looked, sample, rows, ways):
    """Tell whether good rows and ways show that all words of the first sample are in the closure of the sample."""
    tree = Beginnings(looked.letters, sample, looked.look)
    groups = groups_of_paper(tree, rows)
    words = words_of_first_sample(looked)
    if groups is None or not is_tuple_of(ways, len(words), len(words)):
        return False
    return all([is_way(tree, groups, word, way) for word, way in zip(words, ways)])


def is_too_little_paper(small, k, sample, word, value):
    """Tell whether the value is a machine that shows that a word of the language is not in the closure."""
    if not is_over(small[0], word) or not is_taken(small, word):
        return False
    return is_fitting(small[0], sample, (word,), k, value)


def accepts_tells(machine, k, sample, value):
    """Tell whether the value is evidence whether the sample tells the language at k."""
    need_machine_and_look(machine, k)
    need_sample(machine[0], sample)
    small = least_of_look(machine, k)
    looked = Looked(small, k)
    if not is_tuple_of(value, 2, 3) or type(value[0]) != str:
        return False
    if value[0] == "not within" and len(value) == 2:
        return type(value[1]) == str and value[1] in sample and not is_taken(small, value[1])
    if value[0] == "too little" and len(value) == 3:
        return is_too_little_paper(small, k, sample, value[1], value[2])
    if value[0] != "tells" or len(value) != 3 or first_not_within(small, sample) is not None:
        return False
    return is_telling_paper(looked, sample, value[1], value[2])


def least_look_up_to_most(small):
    """Return the least look, from 0 to 12, of which the language of a least machine is, or None."""
    for k, pairs in enumerate(pairs_by_letters(small, MOST_LOOK)):
        if len(pairs) == 0:
            return k
    return None


def teaching(machine):
    """Return the least look of the language, its first sample at it, and a word that is not in it, or None.

    At the look that is less by 1, the closure has this word.
    """
    need_machine(machine)
    small = least(machine)
    k = least_look_up_to_most(small)
    if k is None:
        raise NotPossible("look")
    words = first_sample_of(Looked(small, k))
    return k, words, None if k == 0 else first_added(small, k - 1)
