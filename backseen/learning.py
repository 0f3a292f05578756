"""Learning a language from words: what a learner holds, what a teacher shows, and what two sides teach."""

from backseen.cases import case_by
from backseen.comparing import first_outside
from backseen.errors import BadValue, NotPossible, TooLarge
from backseen.grown import Grower
from backseen.looked import Looked
from backseen.machines import limited
from backseen.seen import Seen
from backseen.sides import first_within, put_in
from backseen.teaching import first_not_within
from backseen.telling import least_of_look, need_machine_and_look, telling_number_of, words_of_first_sample
from backseen.words import MOST_LOOK, is_sample, need_letters, need_look, need_sample, need_word


def sizes_of(grower):
    """Return how many states the least machine of a closure has, and its telling number."""
    return len(grower.seen.as_least()[1]), telling_number_of(grower.seen)


class Learner:
    """A learner holds words over its letters; its language is their closure at its look.

    The closure stands in `grower`; it is made anew only where it becomes another one.
    """

    def __init__(self, letters, k):
        need_letters(letters)
        need_look(k)
        self.letters = letters
        self.look = k
        self.held = ()
        self.entries = []
        self.grower = Grower(letters, (), k)
        self.sizes = sizes_of(self.grower)

    def add(self, word):
        """Hold the word; tell whether it was not in the language before."""
        need_word(self.letters, word)
        held = put_in(self.held, word)
        if not is_sample(self.letters, held):
            raise TooLarge("words")
        case = case_by(self.grower, word)
        is_changed = case != ("taken",)
        grower = Grower(self.letters, held, self.look) if is_changed else self.grower
        self.note("add", word, is_changed, case, held, grower)
        return is_changed

    def take_back(self, word):
        """Hold the word no longer; tell whether it is not in the language any more."""
        need_word(self.letters, word)
        if word not in self.held:
            raise NotPossible("word")
        held = tuple([other for other in self.held if other != word])
        grower = Grower(self.letters, held, self.look)
        is_changed = not grower.seen.has_word(word)
        self.note("take back", word, is_changed, None, held, grower)
        return is_changed

    def note(self, deed, word, is_changed, case, held, grower):
        """Note a deed, the words that are held behind it, and their closure."""
        before = self.sizes
        self.held = held
        if is_changed:
            self.grower = grower
            self.sizes = sizes_of(grower)
        self.entries.append((deed, word, is_changed, case, before, self.sizes))

    def takes(self, word):
        """Tell whether the word is in the learner's language."""
        need_word(self.letters, word)
        return self.grower.seen.has_word(word)

    def words(self):
        """Return the ascending tuple of the words that are held."""
        return self.held

    def machine(self):
        """Return the least machine of the learner's language."""
        return limited(self.grower.seen.as_least())

    def log(self):
        """Return the list of the deeds, each with what it changed."""
        return list(self.entries)

    def twin(self):
        """Return another learner with the same letters, look, words and log."""
        other = Learner(self.letters, self.look)
        other.held = self.held
        other.entries = list(self.entries)
        other.grower = self.grower
        other.sizes = self.sizes
        return other


def first_missing(machine, k, sample):
    """Return the first word of the language that is not in the closure of the sample at k, or None."""
    need_machine_and_look(machine, k)
    need_sample(machine[0], sample)
    return first_outside(machine, Seen(machine[0], sample, k).as_machine())


def shown_words(machine, k, sample):
    """Return the tuple of the words that a teacher shows to a learner who holds the words of the sample."""
    need_machine_and_look(machine, k)
    need_sample(machine[0], sample)
    letters = machine[0]
    small = least_of_look(machine, k)
    looked = Looked(small, k)
    if first_not_within(small, sample) is not None:
        raise NotPossible("sample")
    held = sample
    seen = Seen(letters, held, k)
    shown = []
    # No other words are ever the first ones that are missing.
    for word in words_of_first_sample(looked):
        if not seen.has_word(word):
            shown.append(word)
            if not is_sample(letters, tuple(shown)):
                raise TooLarge("words")
            held = put_in(held, word)
            seen = Seen(letters, held, k)
    return tuple(shown)


def learned(letters, sample, outside):
    """Return the least look at which the closure of the sample has no word that is out, and its least machine.

    If there is no such look from 0 to 12, None is returned.
    """
    need_sample(letters, sample)
    if not is_sample(letters, outside):
        raise BadValue("outside")
    for k in range(MOST_LOOK + 1):
        seen = Seen(letters, sample, k)
        if first_within(seen, outside) is None:
            return k, limited(seen.as_least())
    return None
