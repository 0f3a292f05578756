"""Two sides: words that are in a language and words that are out, and what they say of further words."""

from backseen.errors import BadValue
from backseen.machines import is_taken, need_machine
from backseen.papers import is_fitting, is_must_paper, must_evidence
from backseen.seen import Beginnings, Seen
from backseen.wholes import classes_of_wholes
from backseen.words import (
    is_look, is_short_sample, is_tuple_of, need_look, need_short_sample, need_word, word_place,
)

MOST_JUDGED_LETTERS = 100


def need_outside(letters, outside):
    """Refuse as words that are out what is not a short sample over the letters."""
    if not is_short_sample(letters, outside):
        raise BadValue("outside")


def need_sides(letters, sample, outside):
    """Refuse what is not letters and two short samples over them, the first wrong one first."""
    need_short_sample(letters, sample)
    need_outside(letters, outside)


def need_sides_and_look(letters, sample, outside, k):
    """Refuse what is not letters, two short samples over them, and a look, the first wrong one first."""
    need_sides(letters, sample, outside)
    need_look(k)


def first_within(closed, outside):
    """Return the first word of `outside` that is in a closure, or None."""
    for word in outside:
        if closed.has_word(word):
            return word
    return None


def first_in_both(sample, outside):
    """Return the first word that is in both samples, or None."""
    for word in outside:
        if word in sample:
            return word
    return None


def put_in(sample, word):
    """Return the sample with the word put in."""
    return sample if word in sample else tuple(sorted(sample + (word,), key=word_place))


def clash_evidence(name, seen, word):
    """Return evidence with this name, about a word that is out and yet in the closure."""
    _, rows, way = must_evidence(seen, word)
    return name, word, rows, way


def are_apart(letters, sample, outside, k):
    """Tell whether the two sides are apart at the look k."""
    need_sides_and_look(letters, sample, outside, k)
    return first_within(Seen(letters, sample, k), outside) is None


def apart_evidence(letters, sample, outside, k):
    """Return evidence whether two sides are apart, of parameters that are right."""
    seen = Seen(letters, sample, k)
    word = first_within(seen, outside)
    return ("apart", seen.as_least()) if word is None else clash_evidence("clash", seen, word)


def apart_paper(letters, sample, outside, k):
    """Return evidence whether the two sides are apart at the look k."""
    need_sides_and_look(letters, sample, outside, k)
    return apart_evidence(letters, sample, outside, k)


def is_named(value, name, many):
    """Tell whether the value is a tuple of so many items, the first one the name."""
    return is_tuple_of(value, many, many) and type(value[0]) == str and value[0] == name


def is_one_of(words, value):
    """Tell whether the value is one of the words."""
    return type(value) == str and value in words


def is_clash_paper(letters, sample, outside, k, value):
    """Tell whether the value is evidence that a word which is out is in the closure."""
    if not is_named(value, "clash", 4) or not is_one_of(outside, value[1]):
        return False
    return is_must_paper(Beginnings(letters, sample, k), value[1], value[2], value[3])


def is_apart_paper(letters, sample, outside, k, value):
    """Tell whether the value is evidence that two sides are apart."""
    return is_named(value, "apart", 2) and is_fitting(letters, sample, outside, k, value[1])


def accepts_apart(letters, sample, outside, k, value):
    """Tell whether the value is evidence whether the two sides are apart at the look k."""
    need_sides_and_look(letters, sample, outside, k)
    return is_apart_paper(letters, sample, outside, k, value) or is_clash_paper(letters, sample, outside, k, value)


def verdict_with_reason(letters, sample, outside, k, word):
    """Return the verdict about the word, and two things that show it.

    With "open" these are closures with the word and without it; otherwise a closure, and a word that is in it.
    """
    seen = Seen(letters, sample, k)
    clashing = first_within(seen, outside)
    if clashing is not None:
        return "clash", seen, clashing
    if seen.has_word(word):
        return "must", seen, word
    more = Seen(letters, put_in(sample, word), k)
    clashing = first_within(more, outside)
    return ("open", more, seen) if clashing is None else ("must not", more, clashing)


def need_verdict(letters, sample, outside, k, word):
    """Refuse wrong parameters of a question for a verdict, the first wrong one first."""
    need_sides_and_look(letters, sample, outside, k)
    need_word(letters, word, MOST_JUDGED_LETTERS)


def verdict(letters, sample, outside, k, word):
    """Return the verdict about the word: "must", "must not", "open" or "clash"."""
    need_verdict(letters, sample, outside, k, word)
    return verdict_with_reason(letters, sample, outside, k, word)[0]


def verdict_evidence(letters, sample, outside, k, word):
    """Return evidence about the verdict, of parameters that are right."""
    name, closed, reason = verdict_with_reason(letters, sample, outside, k, word)
    if name == "open":
        return name, closed.as_least(), reason.as_least()
    return must_evidence(closed, word) if name == "must" else clash_evidence(name, closed, reason)


def verdict_paper(letters, sample, outside, k, word):
    """Return evidence about the verdict about the word."""
    need_verdict(letters, sample, outside, k, word)
    return verdict_evidence(letters, sample, outside, k, word)


def is_open_paper(letters, sample, outside, k, word, value):
    """Tell whether the value is evidence that the word is open."""
    if not is_named(value, "open", 3):
        return False
    _, one, other = value
    if not is_fitting(letters, sample, outside, k, one) or not is_fitting(letters, sample, outside, k, other):
        return False
    return is_taken(one, word) and not is_taken(other, word)


def is_kept_paper(letters, sample, outside, k, word, value):
    """Tell whether the value is evidence that the word must be in or must not, where the sides are apart."""
    if is_named(value, "must", 3):
        shown = is_must_paper(Beginnings(letters, sample, k), word, value[1], value[2])
    elif is_named(value, "must not", 4) and is_one_of(outside, value[1]):
        shown = is_must_paper(Beginnings(letters, put_in(sample, word), k), value[1], value[2], value[3])
    else:
        return False
    return shown and first_within(Seen(letters, sample, k), outside) is None


def accepts_verdict(letters, sample, outside, k, word, value):
    """Tell whether the value is evidence about the verdict about the word, with the right verdict."""
    need_verdict(letters, sample, outside, k, word)
    if is_kept_paper(letters, sample, outside, k, word, value):
        return True
    if is_open_paper(letters, sample, outside, k, word, value):
        return True
    return is_clash_paper(letters, sample, outside, k, value)


def least_look_of_sides(letters, sample, outside):
    """Return the least look at which two sides without a common word are apart."""
    k = 0
    while first_within(Seen(letters, sample, k), outside) is not None:
        k += 1
    return k


def least_apart(letters, sample, outside):
    """Return the least look at which the two sides are apart, or None."""
    need_sides(letters, sample, outside)
    return least_look_of_sides(letters, sample, outside) if first_in_both(sample, outside) is None else None


def least_apart_paper(letters, sample, outside):
    """Return evidence about the least look of the two sides."""
    need_sides(letters, sample, outside)
    word = first_in_both(sample, outside)
    if word is not None:
        return "never", word
    k = least_look_of_sides(letters, sample, outside)
    _, machine = apart_evidence(letters, sample, outside, k)
    return "apart", k, machine, () if k == 0 else apart_evidence(letters, sample, outside, k - 1)


def is_never_paper(sample, outside, value):
    """Tell whether the value is evidence that some word is in both samples."""
    return is_named(value, "never", 2) and is_one_of(sample, value[1]) and value[1] in outside


def are_clashes_below(letters, sample, outside, k, value):
    """Tell whether the value is evidence that the sides are not apart at any look below k: () for the look 0."""
    if k == 0:
        return is_tuple_of(value, 0, 0)
    return is_clash_paper(letters, sample, outside, k - 1, value)


def accepts_least_apart(letters, sample, outside, value):
    """Tell whether the value is evidence about the least look of the two sides."""
    need_sides(letters, sample, outside)
    if is_never_paper(sample, outside, value):
        return True
    if not is_named(value, "apart", 4) or not is_look(value[1]):
        return False
    _, k, machine, clash = value
    if not is_fitting(letters, sample, outside, k, machine):
        return False
    return are_clashes_below(letters, sample, outside, k, clash)


def least_apart_from(machine, outside):
    """Return the least integer k such that the closure at k of the machine's language has no word that is out."""
    need_machine(machine)
    need_outside(machine[0], outside)
    if any(is_taken(machine, word) for word in outside):
        return None
    # There are never more looked states at a smaller k: if there are too many here, there are at the one looked for.
    k = 0
    while first_within(classes_of_wholes((machine,), k), outside) is not None:
        k += 1
    return k
