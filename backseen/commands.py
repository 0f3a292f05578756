"""The commands of a desk, why they are not possible, what a desk holds behind them, and papers for what it holds."""

from backseen.errors import BadValue, NotPossible
from backseen.sides import MOST_JUDGED_LETTERS, accepts_verdict, put_in, verdict_paper
from backseen.words import (
    MOST_LOOK, MOST_SHORT_LETTERS, MOST_SHORT_WORDS, is_over, is_tuple_of, need_letters, need_look,
)

MOST_ASKED_WORDS = 6
MOST_COMMANDS = 24


def is_command(letters, value):
    """Tell whether the value is a command over the letters."""
    if not is_tuple_of(value, 1, 2) or type(value[0]) != str:
        return False
    if len(value) == 1:
        return value[0] == "raise"
    if value[0] not in ("in", "out", "back", "ask"):
        return False
    most = MOST_JUDGED_LETTERS if value[0] == "ask" else MOST_SHORT_LETTERS
    return is_over(letters, value[1]) and len(value[1]) <= most


def need_journal(letters, k, journal):
    """Refuse what is not letters, a look, and a tuple of at most 24 commands over the letters, the first wrong one."""
    need_letters(letters)
    need_look(k)
    if not is_tuple_of(journal, 0, MOST_COMMANDS) or not all(is_command(letters, command) for command in journal):
        raise BadValue("journal")


class Moment:
    """What a desk holds behind some commands: the words in, the words out, the asked words, and the look.

    `many` is the number of these commands. A moment is never changed.
    """

    def __init__(self, words_in, words_out, asked, look, many):
        self.words_in = words_in
        self.words_out = words_out
        self.asked = asked
        self.look = look
        self.many = many

    def has_word(self, word):
        """Tell whether the word is one of the words in or out."""
        return word in self.words_in or word in self.words_out

    def is_many(self, deed):
        """Tell whether there are already as many words as there may be of those that the deed puts somewhere."""
        if deed == "ask":
            return len(self.asked) == MOST_ASKED_WORDS
        if deed == "in":
            return len(self.words_in) == MOST_SHORT_WORDS
        return deed == "out" and len(self.words_out) == MOST_SHORT_WORDS

    def reason_against(self, command):
        """Return why the command is not possible, or None if it is."""
        deed, word = command[0], command[-1]
        if deed in ("in", "out") and self.has_word(word):
            return "there"
        if deed == "back" and not self.has_word(word):
            return "missing"
        if deed == "ask" and word in self.asked:
            return "asked"
        if deed == "raise" and self.look == MOST_LOOK:
            return "look"
        if self.is_many(deed):
            return "many"
        return "full" if self.many == MOST_COMMANDS else None

    def after(self, command):
        """Return the moment behind a command that is possible."""
        deed, word = command[0], command[-1]
        words_in, words_out, asked, look = self.words_in, self.words_out, self.asked, self.look
        if deed == "in":
            words_in = put_in(words_in, word)
        elif deed == "out":
            words_out = put_in(words_out, word)
        elif deed == "back":
            words_in = tuple([other for other in words_in if other != word])
            words_out = tuple([other for other in words_out if other != word])
        elif deed == "ask":
            asked = asked + (word,)
        else:
            look += 1
        return Moment(words_in, words_out, asked, look, self.many + 1)


def first_moment(k):
    """Return what a new desk holds that begins with the look k."""
    return Moment((), (), (), k, 0)


def moment_behind(moment, command):
    """Return the moment behind a command, or refuse a command that is not possible."""
    reason = moment.reason_against(command)
    if reason is not None:
        raise NotPossible(reason)
    return moment.after(command)


def moments_of(k, journal):
    """Return the list of the moments behind the commands of a journal that begins with the look k."""
    moments = []
    moment = first_moment(k)
    for command in journal:
        moment = moment_behind(moment, command)
        moments.append(moment)
    return moments


def new_paper(letters, moment, word):
    """Return a paper about the word for what a desk holds."""
    return verdict_paper(letters, moment.words_in, moment.words_out, moment.look, word)


def is_right_paper(letters, moment, word, value):
    """Tell whether the value is accepted as a paper about the word for what a desk holds."""
    return accepts_verdict(letters, moment.words_in, moment.words_out, moment.look, word, value)
