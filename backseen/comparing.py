"""Comparing the languages of two machines."""

from backseen.errors import TooLarge
from backseen.machines import first_state, is_state, is_taken, least, limited, need_two_machines
from backseen.tables import first_word_to, least_machine
from backseen.words import is_over, is_tuple_of

MOST_PAIRS = 4000


def target_of(rows, state, at):
    """Return where the letter with the index `at` leads from a state, or from nowhere (None)."""
    return None if state is None else rows[state][at]


def word_of_pairs(machine, other, start, is_wanted):
    """Return the first word that leads from the pair of states `start` to a wanted pair, or None.

    A pair is a state of `machine` and one of `other`, or None for nowhere. What is wanted is told of two truths:
    whether the one state is an end, and whether the other one is.
    """
    letters, _, ends = machine
    is_end = {end: True for end in ends}
    is_other_end = {end: True for end in other[2]}

    def following(pair):
        return list(zip(letters, targets_of_pair(machine, other, pair)))

    return first_word_to(start, following, lambda pair: is_wanted(pair[0] in is_end, pair[1] in is_other_end))


def start_pair(machine, other):
    """Return the pair of the states 0, with None for a state that is not there."""
    return first_state(machine), first_state(other)


def is_only_one(one, other):
    """Tell whether just one of two truths holds."""
    return one != other


def is_only_first(one, other):
    """Tell whether the first of two truths holds and the second does not."""
    return one and not other


def first_telling(machine, other, start):
    """Return the first word that leads from just one of the two states of the pair to an end, or None."""
    return word_of_pairs(machine, other, start, is_only_one)


def first_outside(machine, other):
    """Return the first word that `machine` takes and `other` does not, or None."""
    # The least machines have the fewest pairs.
    small, other_small = least(machine), least(other)
    return word_of_pairs(small, other_small, start_pair(small, other_small), is_only_first)


def telling_word(machine, other):
    """Return the first word that exactly one of the two machines takes, or None."""
    need_two_machines(machine, other)
    small, other_small = least(machine), least(other)
    if small == other_small:
        return None
    return first_telling(small, other_small, start_pair(small, other_small))


def outside_word(machine, other):
    """Return the first word that `machine` takes and `other` does not, or None."""
    need_two_machines(machine, other)
    return first_outside(machine, other)


def are_both_there(pair):
    """Tell whether both items of a pair are states."""
    return None not in pair


def targets_of_pair(machine, other, pair):
    """Return the list of the pairs to which the letters, in their order, lead from a pair."""
    one, two = pair
    rows, other_rows = machine[1], other[1]
    return [(target_of(rows, one, at), target_of(other_rows, two, at)) for at in range(len(machine[0]))]


def pairs_led_to(machine, other, counts):
    """Return the pairs of states to which one word leads, in the order of the first such words.

    `counts` tells which pairs count, as one item, None, or both may be no state. It raises TooLarge("pairs") if there
    are more than 4000.
    """
    start = start_pair(machine, other)
    if not counts(start):
        return []
    met = {start: True}
    pairs = [start]
    at = 0
    while at < len(pairs):
        here = pairs[at]
        at += 1
        for target in targets_of_pair(machine, other, here):
            if counts(target) and target not in met:
                met[target] = True
                pairs.append(target)
        if len(pairs) > MOST_PAIRS:
            raise TooLarge("pairs")
    return pairs


def inside_paper(machine, other):
    """Return evidence whether the language of `machine` lies in that of `other`."""
    need_two_machines(machine, other)
    word = first_outside(machine, other)
    if word is not None:
        return "outside", word
    return "inside", tuple(pairs_led_to(machine, other, are_both_there))


def is_pair(value, many, many_other):
    """Tell whether the value is a pair of a state of one machine and a state of another one."""
    return is_tuple_of(value, 2, 2) and is_state(value[0], many) and is_state(value[1], many_other)


def holds_inside(machine, other, one, two, listed):
    """Tell whether what a pair of states asks for holds, where `listed` has all pairs of the evidence."""
    if one in machine[2] and two not in other[2]:
        return False
    targets = list(zip(machine[1][one], other[1][two]))
    return all(pair[0] is None or pair in listed for pair in targets)


def are_inside_pairs(machine, other, value):
    """Tell whether the value is pairs that show that the language of `machine` lies in that of `other`."""
    if not is_tuple_of(value, 0, MOST_PAIRS):
        return False
    if not all(is_pair(pair, len(machine[1]), len(other[1])) for pair in value):
        return False
    listed = {pair: True for pair in value}
    if len(machine[1]) > 0 and (0, 0) not in listed:
        return False
    return all(holds_inside(machine, other, one, two, listed) for one, two in listed)


def accepts_inside(machine, other, value):
    """Tell whether the value is evidence whether the language of `machine` lies in that of `other`."""
    need_two_machines(machine, other)
    if not is_tuple_of(value, 2, 2) or type(value[0]) != str:
        return False
    name, content = value
    if name == "inside":
        return are_inside_pairs(machine, other, content)
    if name == "outside" and is_over(machine[0], content):
        return is_taken(machine, content) and not is_taken(other, content)
    return False


def are_both(one, other):
    """Tell whether both of two truths hold."""
    return one and other


def least_of_pairs(machine, other, pairs, is_wanted):
    """Return the least machine, of at most 400 states, of the table whose rows are the pairs, the first one its start.

    A pair is an end if it is wanted: this is told of two truths, whether the one state is an end and the other one is.
    """
    number = {pair: at for at, pair in enumerate(pairs)}
    rows = [[number.get(target) for target in targets_of_pair(machine, other, pair)] for pair in pairs]
    is_end = {end: True for end in machine[2]}
    is_other_end = {end: True for end in other[2]}
    ends = [at for at, (one, two) in enumerate(pairs) if is_wanted(one in is_end, two in is_other_end)]
    return limited(least_machine(machine[0], rows, ends, 0 if len(pairs) > 0 else None))


def common(machine, other):
    """Return the least machine of the words that both machines take."""
    need_two_machines(machine, other)
    small, other_small = least(machine), least(other)
    return least_of_pairs(small, other_small, pairs_led_to(small, other_small, are_both_there), are_both)
