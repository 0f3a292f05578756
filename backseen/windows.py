"""Windows: how words begin, how they end, and what stands in them, k letters or k + 1 at a time."""

from backseen.comparing import first_telling, is_only_first, word_of_pairs
from backseen.joined import LedTable
from backseen.looked import Looked
from backseen.looking import are_asked_words, in_order, pairs_among
from backseen.machines import (
    first_words_of, is_taken, last_words_of, least, limited, need_machine, state_after,
)
from backseen.seen import Beginnings, Seen
from backseen.tables import least_machine
from backseen.words import (
    ending, is_integer_within, is_tuple_of, need_look, need_sample_and_look, need_word, word_place,
)


def ascending(words):
    """Return the ascending tuple of the words, each once."""
    return tuple(sorted({word: True for word in words}, key=word_place))


def windows_in(word, k):
    """Return the list of the words of k + 1 letters that stand in the word, from left to right."""
    return [word[at:at + k + 1] for at in range(len(word) - k)]


def table_of_windows(sample, k):
    """Return the shorts, firsts, windows and lasts of the sample."""
    long_words = [word for word in sample if len(word) >= k]
    return (
        tuple([word for word in sample if len(word) < k]),
        ascending([word[:k] for word in long_words]),
        ascending([window for word in long_words for window in windows_in(word, k)]),
        ascending([ending(word, k) for word in long_words]),
    )


def window_table(letters, sample, k):
    """Return the table of the sample at the look k."""
    need_sample_and_look(letters, sample, k)
    return table_of_windows(sample, k)


def rows_by_lead(table, many_letters):
    """Return the rows and the ends of a table with leads in which all rows with one lead are put together.

    If these are the beginnings of words, this table takes the words that are in the windows of these words: a short
    lead is what was read, and of more only the last k letters matter. The lead of the row 0 is the one of its row 0.
    """
    number = {}
    for word in table.leads:
        if word not in number:
            number[word] = len(number)
    rows = [[None for _ in range(many_letters)] for _ in number]
    for source, letter, target in table.edges():
        rows[number[table.leads[source]]][letter] = number[table.leads[target]]
    return rows, sorted({number[table.leads[end]]: True for end in table.ends})


def least_by_lead(letters, table):
    """Return the least machine of the words in the windows, of any number of states."""
    rows, ends = rows_by_lead(table, len(letters))
    return least_machine(letters, rows, ends, 0 if len(rows) > 0 else None)


def window_machine(letters, sample, k):
    """Return the least machine of the words that are in the windows of the sample."""
    need_sample_and_look(letters, sample, k)
    return limited(least_by_lead(letters, Beginnings(letters, sample, k).table))


def out_evidence(sample, k, word):
    """Return evidence that the word is not in the windows of the sample, or None if it is."""
    shorts, firsts, windows, lasts = table_of_windows(sample, k)
    if len(word) < k:
        return None if word in shorts else ("out", "short")
    if word[:k] not in firsts:
        return "out", "first"
    if ending(word, k) not in lasts:
        return "out", "last"
    known = {window: True for window in windows}
    for at, window in enumerate(windows_in(word, k)):
        if window not in known:
            return "out", at
    return None


def is_in_windows(letters, sample, k, word):
    """Tell whether the word is in the windows of the sample."""
    need_sample_and_look(letters, sample, k)
    need_word(letters, word)
    return out_evidence(sample, k, word) is None


def places_of_windows(sample, k):
    """Return a dict that has, for each window of the sample, the number of a word and the place where it stands."""
    found = {}
    for number, word in enumerate(sample):
        for at, window in enumerate(windows_in(word, k)):
            found[window] = (number, at)
    return found


def in_evidence(sample, k, word):
    """Return evidence that the word, which is in the windows of the sample, is in them."""
    if len(word) < k:
        return "in", sample.index(word)
    found = places_of_windows(sample, k)
    numbers = [number for number, other in enumerate(sample) if len(other) >= k]
    firsts = [number for number in numbers if sample[number][:k] == word[:k]]
    lasts = [number for number in numbers if ending(sample[number], k) == ending(word, k)]
    return "in", firsts[0], tuple([found[window] for window in windows_in(word, k)]), lasts[0]


def window_paper(letters, sample, k, word):
    """Return evidence whether the word is in the windows of the sample."""
    need_sample_and_look(letters, sample, k)
    need_word(letters, word)
    told = out_evidence(sample, k, word)
    return in_evidence(sample, k, word) if told is None else told


def is_number_of_long(sample, k, value):
    """Tell whether the value is the number of a word of the sample that has at least k letters."""
    return is_integer_within(value, 0, len(sample) - 1) and len(sample[value]) >= k


def is_place(sample, window, value):
    """Tell whether the value is the number of a word of the sample and a place in it where the window stands."""
    if not is_tuple_of(value, 2, 2) or not is_integer_within(value[0], 0, len(sample) - 1):
        return False
    word = sample[value[0]]
    return is_integer_within(value[1], 0, len(word)) and word[value[1]:value[1] + len(window)] == window


def is_in_paper(sample, k, word, first, places, last):
    """Tell whether two numbers and places show that a word of at least k letters is in the windows."""
    if not is_number_of_long(sample, k, first) or not is_number_of_long(sample, k, last):
        return False
    if sample[first][:k] != word[:k] or ending(sample[last], k) != ending(word, k):
        return False
    windows = windows_in(word, k)
    if not is_tuple_of(places, len(windows), len(windows)):
        return False
    return all([is_place(sample, window, place) for window, place in zip(windows, places)])


def is_out_paper(sample, k, word, told):
    """Tell whether what is told is why the word is not in the windows of the sample."""
    shorts, firsts, windows, lasts = table_of_windows(sample, k)
    if type(told) == int:
        return 0 <= told < len(word) - k and word[told:told + k + 1] not in windows
    if type(told) != str:
        return False
    if len(word) < k:
        return told == "short" and word not in shorts
    return (told == "first" and word[:k] not in firsts) or (told == "last" and ending(word, k) not in lasts)


def accepts_window(letters, sample, k, word, value):
    """Tell whether the value is evidence whether the word is in the windows of the sample."""
    need_sample_and_look(letters, sample, k)
    need_word(letters, word)
    if not is_tuple_of(value, 2, 4) or type(value[0]) != str:
        return False
    if value[0] == "out" and len(value) == 2:
        return is_out_paper(sample, k, word, value[1])
    if value[0] != "in" or (len(value) == 2) != (len(word) < k):
        return False
    if len(value) == 2:
        return is_integer_within(value[1], 0, len(sample) - 1) and sample[value[1]] == word
    return len(value) == 4 and is_in_paper(sample, k, word, value[1], value[2], value[3])


def first_free_in_windows(letters, sample, k):
    """Return the first word that is in the windows of the sample and not in its closure, or None."""
    need_sample_and_look(letters, sample, k)
    seen = Seen(letters, sample, k)
    if len(seen.rows) == 0:
        return None
    rows, ends = rows_by_lead(seen.tree.table, len(letters))
    return word_of_pairs((letters, rows, ends), seen.as_machine(), (0, 0), is_only_first)


def windows_of(machine, k):
    """Return the least machine of the words that are in the windows of the language of the machine."""
    need_machine(machine)
    need_look(k)
    looked = Looked(least(machine), k)
    table = LedTable(looked.rows, looked.ends, [word for _, word in looked.pairs], k)
    return least_by_lead(machine[0], table)


def pairs_behind(machine, pairs):
    """Return the pairs of two different states to which one letter leads from the states of one of the pairs.

    It is a dict that has for each of them the pair from which it is come to, and the letter.
    """
    letters, rows, _ = machine
    found = {}
    for pair in pairs:
        for letter, one, other in zip(letters, rows[pair[0]], rows[pair[1]]):
            if one is not None and other is not None and one != other:
                found[in_order(one, other)] = (pair, letter)
    return found


def pairs_behind_words(machine, k):
    """Return the list of the pairs of different states to which one word of 0, 1, 2 and so on to k letters leads.

    Each item is a dict as `pairs_behind` returns it, but for the first one, which has just the pairs.
    """
    found = [{pair: None for pair in pairs_among(list(range(len(machine[1]))))}]
    for _ in range(k):
        # Pairs only fall away, so from equal numbers on nothing changes; this spares large machines most of the work.
        if len(found) > 1 and len(found[-1]) == len(found[-2]):
            found.append(found[-1])
        else:
            found.append(pairs_behind(machine, found[-1]))
    return found


def is_windowed(machine, k):
    """Tell whether the language of the machine is windowed at k."""
    need_machine(machine)
    need_look(k)
    return len(pairs_behind_words(least(machine), k)[k]) == 0


def windowed_against(machine, k):
    """Return five words against windows at k, or None if the language of the machine is windowed at k."""
    need_machine(machine)
    need_look(k)
    small = least(machine)
    pairs_at = pairs_behind_words(small, k)
    if len(pairs_at[k]) == 0:
        return None
    pair = min(pairs_at[k])
    middle = ""
    for pairs in pairs_at[:0:-1]:
        pair, letter = pairs[pair]
        middle = letter + middle
    first, last = first_words_of(small), last_words_of(small)
    one, other = pair
    targets = state_after(small, one, middle), state_after(small, other, middle)
    z = first_telling(small, small, targets)
    if is_taken(small, first[one] + middle + z):
        one, other = other, one
    return first[one], first[other], middle, last[state_after(small, one, middle)], z


def accepts_windowed(machine, k, value):
    """Tell whether the value is five words against windows at k."""
    need_machine(machine)
    need_look(k)
    if not are_asked_words(machine[0], value, 5):
        return False
    x, y, v, w, z = value
    if len(v) != k or is_taken(machine, x + v + z):
        return False
    return is_taken(machine, x + v + w) and is_taken(machine, y + v + z)
