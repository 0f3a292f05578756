"""Towers: the verdicts about one word at all looks, one after another."""

from backseen.sides import (
    MOST_JUDGED_LETTERS, apart_evidence, are_clashes_below, first_in_both, is_apart_paper, is_kept_paper, is_named,
    is_never_paper, is_open_paper, need_sides, verdict_evidence, verdict_with_reason,
)
from backseen.words import MOST_LOOK, is_integer_within, is_look, is_tuple_of, need_word


def need_tower(letters, sample, outside, word):
    """Refuse wrong parameters of a question for a tower, the first wrong one first."""
    need_sides(letters, sample, outside)
    need_word(letters, word, MOST_JUDGED_LETTERS)


def verdicts(letters, sample, outside, word):
    """Return the list of the verdicts at the looks 0 to 12."""
    return [verdict_with_reason(letters, sample, outside, k, word)[0] for k in range(MOST_LOOK + 1)]


def tower(letters, sample, outside, word):
    """Return the tuple of the verdicts about the word at the looks 0 to 12."""
    need_tower(letters, sample, outside, word)
    return tuple(verdicts(letters, sample, outside, word))


def tower_paper(letters, sample, outside, word):
    """Return evidence about the tower of the word."""
    need_tower(letters, sample, outside, word)
    shared = first_in_both(sample, outside)
    if shared is not None:
        return "never", shared
    told = verdicts(letters, sample, outside, word)
    least = told.count("clash")
    last = MOST_LOOK - told.count("open")
    return (
        "tower", least, last,
        () if least == 0 else apart_evidence(letters, sample, outside, least - 1),
        apart_evidence(letters, sample, outside, least),
        () if last < least else verdict_evidence(letters, sample, outside, last, word),
        () if last == MOST_LOOK else verdict_evidence(letters, sample, outside, last + 1, word),
    )


def is_kept_up_to(letters, sample, outside, word, looks, value):
    """Tell whether the value shows that the word must be in, or must not, from one look to another, these in `looks`.

    It is () if the last look is less than the first one.
    """
    least, last = looks
    if last < least:
        return is_tuple_of(value, 0, 0)
    return is_kept_paper(letters, sample, outside, last, word, value)


def is_open_above(letters, sample, outside, word, last, value):
    """Tell whether the value shows that the word is open at all looks above the last one: () if there is none."""
    if last == MOST_LOOK:
        return is_tuple_of(value, 0, 0)
    return is_open_paper(letters, sample, outside, last + 1, word, value)


def accepts_tower(letters, sample, outside, word, value):
    """Tell whether the value is evidence about the tower of the word."""
    need_tower(letters, sample, outside, word)
    if is_never_paper(sample, outside, value):
        return True
    if not is_named(value, "tower", 7):
        return False
    _, least, last, clash, apart, kept, free = value
    if not is_look(least) or not is_integer_within(last, least - 1, MOST_LOOK):
        return False
    if not are_clashes_below(letters, sample, outside, least, clash):
        return False
    if not is_apart_paper(letters, sample, outside, least, apart):
        return False
    if not is_kept_up_to(letters, sample, outside, word, (least, last), kept):
        return False
    return is_open_above(letters, sample, outside, word, last, free)
