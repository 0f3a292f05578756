"""What becomes of the seen machine of a short sample when one word more is put in."""

from backseen.grown import Grower
from backseen.machines import state_after
from backseen.seen import Seen
from backseen.sides import MOST_JUDGED_LETTERS, put_in
from backseen.words import need_look, need_short_sample, need_word


def need_case(letters, sample, k, word):
    """Refuse wrong parameters of a question for a case, the first wrong one first."""
    need_short_sample(letters, sample)
    need_look(k)
    need_word(letters, word, MOST_JUDGED_LETTERS)


def case_by(grower, word):
    """Return the case of a word for the sample whose seen machine is grown."""
    if grower.seen.has_word(word):
        return ("taken",)
    if len(grower.states) == 0:
        return "alone", word
    _, rest = grower.way_out(word)
    begun = word[:len(word) - len(rest)]
    end = grower.end_matched(word)
    if end is None:
        return ("end", begun) if rest == "" else ("way", begun, rest, None)
    _, behind = grower.way_back(word, end, len(rest))
    between = rest[:len(rest) - len(behind)]
    return ("join", begun, behind) if between == "" else ("way", begun, between, behind)


def case_of(letters, sample, k, word):
    """Return the case of the word."""
    need_case(letters, sample, k, word)
    return case_by(Grower(letters, sample, k), word)


def changed(letters, sample, k, word):
    """Return the seen machine of the sample with the word put in, and what the states have become in it."""
    need_case(letters, sample, k, word)
    grower = Grower(letters, sample, k)
    machine = Seen(letters, put_in(sample, word), k).as_machine()
    # Nothing that leads on is ever lost, so the first word of a state leads to what it has become.
    return machine, tuple([state_after(machine, 0, first) for first in grower.firsts])
