"""Letters, words, looks and samples: their forms, their order, and what words have in common."""

from backseen.errors import BadValue, TooLarge

ALPHABET = "abcdefghijklmnopqrstuvwxyz"
MOST_DIFFERENT_LETTERS = 4
MOST_ASKED_LETTERS = 500
MOST_LISTED_LETTERS = 24
MOST_LISTED_WORDS = 3000
MOST_LOOK = 12
MOST_SAMPLE_WORDS = 200
MOST_SAMPLE_LETTERS = 2000
MOST_SHORT_WORDS = 12
MOST_SHORT_LETTERS = 12


# Values are asked for their very class, never compared before: a value to be judged may be of a class of one's own,
# and may be nested so deep that Python could neither compare nor hash it.


def is_over(alphabet, value):
    """Tell whether the value is a text of letters of the alphabet."""
    return type(value) == str and len(set(value) - set(alphabet)) == 0


def is_integer_within(value, low, high):
    """Tell whether the value is an integer from low to high; True and False are not integers."""
    return type(value) == int and low <= value <= high


def is_tuple_of(value, low, high):
    """Tell whether the value is a tuple of at least low and at most high items."""
    return type(value) == tuple and low <= len(value) <= high


def word_place(word):
    """The key by which words are put in their order."""
    return len(word), word


def is_ascending(words):
    """Tell whether each of the words stands before the next one."""
    return all([word_place(words[at]) < word_place(words[at + 1]) for at in range(len(words) - 1)])


def is_letters(value):
    """Tell whether the value is letters."""
    if type(value) != str or not 1 <= len(value) <= MOST_DIFFERENT_LETTERS:
        return False
    return is_over(ALPHABET, value) and all([value[at] < value[at + 1] for at in range(len(value) - 1)])


def is_word(letters, value):
    """Tell whether the value is a word over the letters, however long."""
    need_letters(letters)
    return is_over(letters, value)


def is_look(value):
    """Tell whether the value is a look."""
    return is_integer_within(value, 0, MOST_LOOK)


def is_sample(letters, value):
    """Tell whether the value is a sample over the letters."""
    need_letters(letters)
    if not is_tuple_of(value, 0, MOST_SAMPLE_WORDS):
        return False
    if not all(type(word) == str for word in value):
        return False
    if sum(len(word) for word in value) > MOST_SAMPLE_LETTERS:
        return False
    return all(is_over(letters, word) for word in value) and is_ascending(value)


def is_short_sample(letters, value):
    """Tell whether the value is a short sample over the letters."""
    if not is_sample(letters, value) or len(value) > MOST_SHORT_WORDS:
        return False
    return all(len(word) <= MOST_SHORT_LETTERS for word in value)


def is_plain(value):
    """Tell whether the value is a plain word."""
    return type(value) == str and len(value) <= MOST_ASKED_LETTERS and is_over(ALPHABET, value)


def need_letters(letters):
    """Refuse what is not letters."""
    if not is_letters(letters):
        raise BadValue("letters")


def need_look(k):
    """Refuse what is not a look."""
    if not is_look(k):
        raise BadValue("k")


def need_word(letters, word, most=MOST_ASKED_LETTERS):
    """Refuse what is not a word over the letters of at most `most` letters."""
    if not is_over(letters, word) or len(word) > most:
        raise BadValue("word")


def need_sample(letters, sample):
    """Refuse what is not letters, and then what is not a sample over them."""
    if not is_sample(letters, sample):
        raise BadValue("sample")


def need_short_sample(letters, sample):
    """Refuse what is not letters, and then what is not a short sample over them."""
    if not is_short_sample(letters, sample):
        raise BadValue("sample")


def need_sample_and_look(letters, sample, k):
    """Refuse what is not letters, a sample over them, and a look, the first one of these first."""
    need_sample(letters, sample)
    need_look(k)


def need_plain_words(one, other):
    """Refuse what are not two plain words."""
    if not is_plain(one):
        raise BadValue("one")
    if not is_plain(other):
        raise BadValue("other")


def comes_before(one, other):
    """Tell whether the plain word `one` stands before the plain word `other`."""
    need_plain_words(one, other)
    return word_place(one) < word_place(other)


def words_up_to(letters, most):
    """Return the ascending tuple of all words over the letters that have at most `most` letters."""
    need_letters(letters)
    if not is_integer_within(most, 0, MOST_LISTED_LETTERS):
        raise BadValue("most")
    words = [""]
    longest = [""]
    for _ in range(most):
        longest = [word + letter for word in longest for letter in letters]
        words.extend(longest)
        if len(words) > MOST_LISTED_WORDS:
            raise TooLarge("words")
    return tuple(words)


def ending(word, many):
    """Return the last `many` letters of a word that has at least so many."""
    return word[len(word) - many:]


def lead(word, k):
    """Return the lead of the word at the look k: all of it, or its last k letters."""
    return ending(word, min(k, len(word)))


def alike(one, other, k):
    """Tell whether the two words are alike at the look k."""
    return len(one) >= k and len(other) >= k and ending(one, k) == ending(other, k)


def common_end(one, other):
    """Return the longest word that is an ending of both plain words."""
    need_plain_words(one, other)
    many = 0
    while many < min(len(one), len(other)) and one[len(one) - many - 1] == other[len(other) - many - 1]:
        many += 1
    return ending(one, many)


def are_alike(one, other, k):
    """Tell whether the two plain words are alike at the look k."""
    need_plain_words(one, other)
    need_look(k)
    return alike(one, other, k)


def beginnings_of(words):
    """Return the ascending tuple of the beginnings of the words."""
    found = {}
    for word in words:
        for many in range(len(word) + 1):
            found[word[:many]] = True
    return tuple(sorted(found, key=word_place))


def beginnings(letters, sample):
    """Return the ascending tuple of the beginnings of the sample."""
    need_sample(letters, sample)
    return beginnings_of(sample)
