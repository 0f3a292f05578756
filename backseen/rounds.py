"""Making words of the closure from a short sample, in rounds and by rows of evidence."""

from backseen.errors import BadValue, NotPossible, TooLarge
from backseen.making import rows_to_make
from backseen.papers import MOST_ROWS
from backseen.seen import Seen
from backseen.tables import letters_to_end
from backseen.tallies import count_of_words
from backseen.words import (
    MOST_LISTED_LETTERS, alike, is_integer_within, is_tuple_of, lead, need_look, need_short_sample, need_word,
    word_place,
)

MOST_ROUND_WORDS = 300


def longest_in(sample):
    """Return the number of letters of the longest word of the sample, or 0 if there is none."""
    return max([len(word) for word in sample], default=0)


def need_most(sample, most):
    """Refuse what is not an integer from the number of letters of the longest word to 24."""
    if not is_integer_within(most, longest_in(sample), MOST_LISTED_LETTERS):
        raise BadValue("most")


def words_of_closure(seen, most):
    """Return the ascending list of the words of the closure that have at most `most` letters."""
    rows = seen.rows
    if count_of_words(rows, seen.ends, most) > MOST_ROUND_WORDS:
        raise TooLarge("words")
    many = letters_to_end(rows, seen.ends)
    found = []
    led = [("", 0)] if len(rows) > 0 else []
    while len(led) > 0:
        found.extend([word for word, state in led if state in seen.end_members])
        # Only what can still come to an end in time is kept; so there are few words, however many letters there are.
        led = [
            (word + letter, target)
            for word, state in led
            for letter, target in zip(seen.tree.letters, rows[state])
            if target is not None and len(word) + 1 + many[target] <= most
        ]
    return found


def rests_by_beginning(words, k):
    """Return a dict that has, for each beginning of at least k letters, the list of what stands behind it."""
    rests = {}
    for word in words:
        for many in range(k, len(word) + 1):
            rests.setdefault(word[:many], []).append(word[many:])
    return rests


def linked_beginnings(rests, k):
    """Return the list of the tuples of beginnings that are alike and have a rest in common, each tuple once."""
    linked = {}
    for beginning in rests:
        for rest in rests[beginning]:
            linked.setdefault((lead(beginning, k), rest), []).append(beginning)
    return list({tuple(linked[key]): True for key in linked if len(linked[key]) > 1})


def next_round(words, k, most):
    """Return the ascending tuple of the words of at most `most` letters that a step adds to the words."""
    known = {word: True for word in words}
    rests = rests_by_beginning(words, k)
    fresh = {}
    for together in linked_beginnings(rests, k):
        shared = {rest: True for beginning in together for rest in rests[beginning]}
        for beginning in together:
            for rest in shared:
                word = beginning + rest
                if len(word) <= most and word not in known:
                    fresh[word] = True
    return tuple(sorted(fresh, key=word_place))


def rounds(letters, sample, k, most):
    """Return the ascending tuple of the words of all rounds."""
    need_short_sample(letters, sample)
    need_look(k)
    need_most(sample, most)
    return tuple(words_of_closure(Seen(letters, sample, k), most))


def words_by_round(letters, sample, k, most):
    """Return the tuple of the rounds, each an ascending tuple of its words."""
    many = len(rounds(letters, sample, k, most))
    found = [sample]
    words = list(sample)
    while len(words) < many:
        fresh = next_round(words, k, most)
        found.append(fresh)
        words.extend(fresh)
    return tuple(found)


def need_rows_question(letters, sample, k, word):
    """Refuse wrong parameters of a question for evidence by rows, the first wrong one first."""
    need_short_sample(letters, sample)
    need_look(k)
    need_word(letters, word, MOST_LISTED_LETTERS)


def rows_for(letters, sample, k, word):
    """Return evidence by rows for the word."""
    need_rows_question(letters, sample, k, word)
    seen = Seen(letters, sample, k)
    if not seen.has_word(word):
        raise NotPossible("word")
    return rows_to_make(seen, sample, word)


def has_form_of_step(row, many):
    """Tell whether the value has the form of a step of three of so many rows."""
    if not is_tuple_of(row, 5, 5) or type(row[0]) != str or row[0] != "by" or type(row[4]) != int:
        return False
    return all(is_integer_within(number, 0, many - 1) for number in row[1:4])


def word_of_step(words, k, row):
    """Return the word that a step makes from the words of the rows ahead of it, or None if it is no step."""
    if not has_form_of_step(row, len(words)):
        return None
    one, two, three = words[row[1]], words[row[2]], words[row[3]]
    many = row[4]
    if not k <= many <= len(one):
        return None
    beginning, rest = one[:many], one[many:]
    if not three.startswith(beginning) or not two.endswith(rest):
        return None
    other = two[:len(two) - len(rest)]
    if not alike(beginning, other, k):
        return None
    return other + three[many:]


def word_of_row(sample, words, k, row):
    """Return the word of a row of evidence, whose words ahead of it are these, or None if the row is not right."""
    if is_tuple_of(row, 2, 2) and type(row[0]) == str and row[0] == "seen":
        return row[1] if type(row[1]) == str and row[1] in sample else None
    return word_of_step(words, k, row)


def words_of_rows(sample, k, word, value):
    """Return the list of the words of the rows, or None if the value is not evidence by rows for the word."""
    if not is_tuple_of(value, 1, MOST_ROWS):
        return None
    most = max(len(word), longest_in(sample))
    words = []
    for row in value:
        made = word_of_row(sample, words, k, row)
        if made is None or len(made) > most:
            return None
        words.append(made)
    return words if words[-1] == word else None


def accepts_rows(letters, sample, k, word, value):
    """Tell whether the value is evidence by rows for the word."""
    need_rows_question(letters, sample, k, word)
    return words_of_rows(sample, k, word, value) is not None
