"""Reading the texts of samples, machines, papers and records."""

from backseen.errors import TextError
from backseen.grammar import (
    machine_part, paper_part, part_behind, records_part, sample_part, text_part, told, tokens_ahead,
)
from backseen.machines import MOST_STATES
from backseen.scanning import EMPTY_WORD, scan
from backseen.sides import MOST_JUDGED_LETTERS
from backseen.tables import letters_to_end
from backseen.words import (
    MOST_SAMPLE_LETTERS, MOST_SAMPLE_WORDS, MOST_SHORT_LETTERS, is_letters, is_look, is_over, word_place,
)

DEEDS = {"IN": "in", "OUT": "out", "TAKE": "back", "ASK": "ask"}


class Reader:
    """The tokens of a text that follow a part of the grammar, read from left to right.

    `letters` are those that the text tells, and `dead_end` is the column of the first state read that leads to no end.
    """

    def __init__(self, text, part):
        self.tokens = scan(text)
        part_behind(part, self.tokens)
        self.at = 0
        self.letters = ""
        self.dead_end = None

    def column(self):
        """Return the column of the next token."""
        return self.tokens[self.at][2]

    def is_kind(self, kind):
        """Tell whether the next token is of the kind."""
        return self.tokens[self.at][0] == kind

    def is_next(self, characters):
        """Tell whether the next token is the name or sign."""
        return self.tokens[self.at][1] == characters

    def take(self):
        """Go on behind the next token, and return its characters."""
        self.at += 1
        return self.tokens[self.at - 1][1]

    def take_if(self, characters):
        """Go on behind the next token if it is the name or sign, and tell whether it was."""
        found = self.is_next(characters)
        if found:
            self.at += 1
        return found

    def take_any_word(self):
        """Read a word, be it over the letters or not."""
        characters = self.take()
        return "" if characters == EMPTY_WORD else characters

    def take_letters(self):
        """Read the word that tells the letters."""
        column = self.column()
        self.letters = self.take_any_word()
        if not is_letters(self.letters):
            raise TextError(column, "letters are 1 to 4 different letters in ascending order")

    def take_word(self):
        """Read a word over the letters."""
        column = self.column()
        word = self.take_any_word()
        if not is_over(self.letters, word):
            raise TextError(column, "a word has other letters")
        return word

    def take_letter(self, problem):
        """Read a word that has to be one of the letters."""
        column = self.column()
        word = self.take_any_word()
        if len(word) != 1 or word not in self.letters:
            raise TextError(column, problem)
        return word

    def take_sample(self):
        """Read the words of a sample."""
        words = []
        many = 0
        while self.is_kind("word"):
            column = self.column()
            word = self.take_word()
            many += len(word)
            if len(words) > 0 and word_place(word) <= word_place(words[-1]):
                raise TextError(column, "the words do not ascend")
            if len(words) == MOST_SAMPLE_WORDS:
                raise TextError(column, "there are more than 200 words")
            if many > MOST_SAMPLE_LETTERS:
                raise TextError(column, "there are more than 2000 letters")
            words.append(word)
            self.take_if(",")
        return tuple(words)

    def many_states(self):
        """Return the number of states of the machine that stands in the text here."""
        many = 1
        at = self.at
        while self.tokens[at][0] in ("word", "number") or self.tokens[at][1] in ("*", ";"):
            if self.tokens[at][1] == ";":
                many += 1
            at += 1
        return many

    def take_machine(self):
        """Read the states of a machine, of which there may be none."""
        if not self.is_kind("word") and not self.is_next("*"):
            return self.letters, (), ()
        many = self.many_states()
        known = 1
        rows = []
        ends = []
        columns = []
        while len(rows) == 0 or self.take_if(";"):
            columns.append(self.column())
            if len(rows) == MOST_STATES:
                raise TextError(columns[-1], "there are more than 400 states")
            if len(rows) == known:
                raise TextError(columns[-1], "no word leads to this state")
            if self.take_if("*"):
                ends.append(len(rows))
            row = self.take_arrows(many, known)
            known = max([known] + [target + 1 for target in row if target is not None])
            rows.append(row)
        self.note_dead_end(rows, ends, columns)
        return self.letters, tuple(rows), tuple(ends)

    def take_arrows(self, many, known):
        """Read the arrows of a state as a row; of so many states in all, so many are known."""
        row = [None for _ in self.letters]
        last = ""
        while self.is_kind("word"):
            column = self.column()
            letter = self.take_letter("an arrow has one of the letters")
            if letter <= last:
                raise TextError(column, "the letters of a state do not ascend")
            target = self.take_target(many, known)
            known = max(known, target + 1)
            row[self.letters.index(letter)] = target
            last = letter
        return tuple(row)

    def take_target(self, many, known):
        """Read the number of the state to which an arrow leads."""
        column = self.column()
        target = int(self.take())
        if target >= many:
            raise TextError(column, "there is no such state")
        if target > known:
            raise TextError(column, "the next new state has another number")
        return target

    def note_dead_end(self, rows, ends, columns):
        """Note the first state that leads to no end, if none is noted; the states stand at these columns."""
        lost = [column for column, many in zip(columns, letters_to_end(rows, ends)) if many is None]
        if self.dead_end is None and len(lost) > 0:
            self.dead_end = lost[0]

    def take_row(self):
        """Read a row of a paper."""
        name = self.take()
        one = self.take_word()
        self.take()
        other = self.take_word()
        if name == "ENDS":
            return "ends", one, other
        self.take()
        return name.lower(), one, other, self.take_letter("a letter is expected")

    def take_trail(self):
        """Read the rows and the way of a paper."""
        rows = []
        while not self.take_if("WAY"):
            rows.append(self.take_row())
            self.take()
        way = [self.take_word()]
        while self.take_if(","):
            way.append(self.take_word())
        return tuple(rows), tuple(way)

    def take_content(self, name):
        """Read what stands in a paper behind its name and letters, and return the paper."""
        if name == "FREE":
            return "free", self.take_machine()
        if name == "OPEN":
            one = self.take_machine()
            self.take()
            return "open", one, self.take_machine()
        if name == "MUST":
            rows, way = self.take_trail()
            return "must", rows, way
        word = self.take_word()
        self.take()
        rows, way = self.take_trail()
        return "must not" if name == "NOT" else "clash", word, rows, way

    def take_look(self):
        """Read a look."""
        column = self.column()
        k = int(self.take())
        if not is_look(k):
            raise TextError(column, "there is no such look")
        return k

    def take_command(self):
        """Read a command."""
        name = self.take()
        if name == "RAISE":
            return ("raise",)
        column = self.column()
        word = self.take_word()
        most = MOST_JUDGED_LETTERS if name == "ASK" else MOST_SHORT_LETTERS
        if len(word) > most:
            raise TextError(column, f"a word has more than {most} letters")
        return DEEDS[name], word

    def take_records(self):
        """Read the records of a desk."""
        records = []
        while not self.is_kind("end"):
            command = self.take_command()
            fresh = []
            while self.take_if("PAPER"):
                number = int(self.take())
                fresh.append((number, self.take_content(self.take())))
            records.append((command, tuple(fresh)))
        return tuple(records)

    def need_no_dead_end(self):
        """Refuse a text in which a state leads to no end, when nothing else is a problem in it."""
        if self.dead_end is not None:
            raise TextError(self.dead_end, "this state leads to no end")


def next_tokens(text):
    """Return the list of the strings for what can come behind the tokens of the text."""
    tokens = scan(text)
    return told(tokens_ahead(part_behind(text_part(), tokens[:-1])))


def read_sample(text):
    """Return the letters and the sample of the text."""
    reader = Reader(text, sample_part())
    reader.take()
    reader.take_letters()
    reader.take()
    return reader.letters, reader.take_sample()


def read_machine(text):
    """Return the machine of the text."""
    reader = Reader(text, machine_part())
    reader.take()
    reader.take_letters()
    reader.take()
    machine = reader.take_machine()
    reader.need_no_dead_end()
    return machine


def read_paper(text):
    """Return the letters and the paper of the text."""
    reader = Reader(text, paper_part())
    name = reader.take()
    reader.take_letters()
    reader.take()
    paper = reader.take_content(name)
    reader.need_no_dead_end()
    return reader.letters, paper


def read_records(text):
    """Return the letters, the look and the records of the text."""
    reader = Reader(text, records_part())
    reader.take()
    reader.take_letters()
    k = reader.take_look()
    reader.take()
    records = reader.take_records()
    reader.need_no_dead_end()
    return reader.letters, k, records
