"""A desk: words in and words out, and papers about words that are asked, which stay as long as they are right."""

from backseen.commands import first_moment, is_command, is_right_paper, moment_behind, new_paper
from backseen.errors import BadValue, NotPossible
from backseen.sides import MOST_JUDGED_LETTERS
from backseen.undecided import first_undecided
from backseen.words import need_letters, need_look, need_word


class Desk:
    """A desk with its letters and the look with which it began.

    `pages` has what the desk holds, as pairs of a moment and its papers: first as a new desk, then behind each command.
    `written` has the records of these commands.
    """

    def __init__(self, letters, k):
        need_letters(letters)
        need_look(k)
        self.alphabet = letters
        self.first_look = k
        self.pages = [(first_moment(k), ())]
        self.written = []

    def act(self, command):
        """Carry out the command, and return the tuple of the words that are done anew."""
        if not is_command(self.alphabet, command):
            raise BadValue("command")
        moment, papers = self.pages[-1]
        later = moment_behind(moment, command)
        fresh = self.fresh_papers(later, papers)
        done = dict(fresh)
        kept = [done[number] if number in done else papers[number] for number in range(len(later.asked))]
        self.pages.append((later, tuple(kept)))
        self.written.append((command, fresh))
        return tuple([later.asked[number] for number in done])

    def fresh_papers(self, moment, papers):
        """Return the numbers of the asked words that have no paper which stays, each with a new paper."""
        due = [
            number for number, word in enumerate(moment.asked)
            if number == len(papers) or not is_right_paper(self.alphabet, moment, word, papers[number])
        ]
        return tuple([(number, new_paper(self.alphabet, moment, moment.asked[number])) for number in due])

    def undo(self):
        """Undo the last command, and return it, or None if there is none."""
        if len(self.written) == 0:
            return None
        self.pages.pop()
        command, _ = self.written.pop()
        return command

    def twin(self):
        """Return another desk with the same letters, beginning and journal."""
        other = Desk(self.alphabet, self.first_look)
        other.pages = list(self.pages)
        other.written = list(self.written)
        return other

    def now(self):
        """Return what the desk holds behind the last command."""
        moment, _ = self.pages[-1]
        return moment

    def words(self):
        """Return the pair of the words in and the words out."""
        return self.now().words_in, self.now().words_out

    def asked(self):
        """Return the tuple of the asked words in their sequence."""
        return self.now().asked

    def look(self):
        """Return the look."""
        return self.now().look

    def letters(self):
        """Return the letters."""
        return self.alphabet

    def began(self):
        """Return the look with which the desk began."""
        return self.first_look

    def journal(self):
        """Return the tuple of the commands in the journal."""
        return tuple([command for command, _ in self.written])

    def verdict(self, word):
        """Return the verdict of the asked word."""
        return self.paper(word)[0]

    def paper(self, word):
        """Return the paper that is kept for the asked word."""
        need_word(self.alphabet, word, MOST_JUDGED_LETTERS)
        moment, papers = self.pages[-1]
        if word not in moment.asked:
            raise NotPossible("missing")
        return papers[moment.asked.index(word)]

    def open_word(self):
        """Return the first undecided word, or None if there is none."""
        moment = self.now()
        return first_undecided(self.alphabet, moment.words_in, moment.words_out, moment.look)

    def records(self):
        """Return the tuple of the records."""
        return tuple(self.written)
