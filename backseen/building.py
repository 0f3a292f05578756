"""Unions and complements of languages, and evidence whether they are of a look."""

from backseen.comparing import least_of_pairs, pairs_led_to, start_pair, targets_of_pair
from backseen.looking import are_five, five_words, keeps_property
from backseen.machines import first_state, is_machine, is_taken, least, limited, need_machine, need_two_machines
from backseen.tables import least_machine
from backseen.words import is_tuple_of, need_look


def is_either(one, other):
    """Tell whether one of two truths holds, or both."""
    return one or other


def is_somewhere(pair):
    """Tell whether one item of a pair is a state, or both are."""
    return pair != (None, None)


def union_of(machine, other):
    """Return the least machine of the words that at least one of two machines takes."""
    need_two_machines(machine, other)
    small, other_small = least(machine), least(other)
    return least_of_pairs(small, other_small, pairs_led_to(small, other_small, is_somewhere), is_either)


def complement(machine):
    """Return the least machine of the words that the machine does not take, however many states it has."""
    letters, rows, ends = least(machine)
    sink = len(rows)
    is_end = {end: True for end in ends}
    table = [[sink if target is None else target for target in row] for row in rows] + [[sink for _ in letters]]
    complement_ends = [at for at in range(sink + 1) if at not in is_end]
    # Without any state, the sink is the row 0.
    return least_machine(letters, table, complement_ends, 0)


def complement_of(machine):
    """Return the least machine of the words that the machine does not take."""
    need_machine(machine)
    return limited(complement(machine))


def evidence_of_look(result, k):
    """Return evidence whether the language of a least machine is of look k."""
    five = five_words(result, k)
    return ("kept", result) if five is None else ("five", five)


def union_paper(machine, other, k):
    """Return evidence whether the union of the languages of two machines is of look k."""
    need_two_machines(machine, other)
    need_look(k)
    return evidence_of_look(union_of(machine, other), k)


def complement_paper(machine, k):
    """Return evidence whether the complement of the language of the machine is of look k."""
    need_machine(machine)
    need_look(k)
    return evidence_of_look(complement_of(machine), k)


def is_union(machine, other, result):
    """Tell whether the language of a least machine is the union of those of two least machines."""
    is_end = {end: True for end in machine[2]}
    is_other_end = {end: True for end in other[2]}
    is_result_end = {end: True for end in result[2]}
    # In the union the rest of a word depends on the pair to which it leads, so each pair has one state of the result.
    start = start_pair(machine, other)
    state_of = {(None, None): None, start: first_state(result)}
    queue = [start]
    at = 0
    while at < len(queue):
        here = queue[at]
        at += 1
        state = state_of[here]
        if (here[0] in is_end or here[1] in is_other_end) != (state in is_result_end):
            return False
        row = [None for _ in result[0]] if state is None else result[1][state]
        for pair, target in zip(targets_of_pair(machine, other, here), row):
            if pair not in state_of:
                state_of[pair] = target
                queue.append(pair)
            elif state_of[pair] != target:
                return False
    return True


def is_kept(letters, k, content, is_right):
    """Tell whether the content of evidence is a machine that has the property at k and the right language."""
    if not is_machine(content) or content[0] != letters:
        return False
    return keeps_property(content, k) and is_right(least(content))


def accepts_look_of(letters, k, value, is_in, is_right):
    """Tell whether the value is evidence whether a language is of look k.

    `is_in` tells which words are in the language, and `is_right` whether a least machine is the one of it.
    """
    if not is_tuple_of(value, 2, 2) or type(value[0]) != str:
        return False
    if value[0] == "kept":
        return is_kept(letters, k, value[1], is_right)
    return value[0] == "five" and are_five(letters, k, value[1], is_in)


def accepts_union(machine, other, k, value):
    """Tell whether the value is evidence whether the union of the languages of two machines is of look k."""
    need_two_machines(machine, other)
    need_look(k)
    return accepts_look_of(
        machine[0], k, value,
        lambda word: is_taken(machine, word) or is_taken(other, word),
        lambda small: is_union(least(machine), least(other), small),
    )


def accepts_complement(machine, k, value):
    """Tell whether the value is evidence whether the complement of the language of the machine is of look k."""
    need_machine(machine)
    need_look(k)
    return accepts_look_of(
        machine[0], k, value,
        lambda word: not is_taken(machine, word),
        lambda small: small == complement(machine),
    )
