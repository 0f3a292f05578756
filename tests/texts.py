"""Plain second definitions of texts: tokens, the grammar as the document writes it, what is read, what is written."""

import random
import re

import oracles

NAMES = """
SAMPLE MACHINE MUST NOT CLASH FREE OPEN ON ENDS BACK WAY RECORDS IN OUT TAKE ASK RAISE PAPER
""".split()
SIGNS = list(":,;*|")
NONE_BEGINS, NO_NAME, DIGITS = "no token begins here", "there is no such name", "a number has at most 4 digits"
LETTERS = "letters are 1 to 4 different letters in ascending order"
OTHER = "a word has other letters"
GRAMMAR = """
TEXT    = SAMPLE | MACHINE | PAPER | RECORDS
SAMPLE  = "SAMPLE" WORD ":" [ WORD { "," WORD } ] END
MACHINE = "MACHINE" WORD ":" [ STATES ] END
PAPER   = "MUST" WORD ":" TRAIL END
        | ( "NOT" | "CLASH" ) WORD ":" WORD ";" TRAIL END
        | "FREE" WORD ":" [ STATES ] END
        | "OPEN" WORD ":" [ STATES ] "|" [ STATES ] END
RECORDS = "RECORDS" WORD NUMBER ":" { DEED { "PAPER" NUMBER BODY } } END
DEED    = ( "IN" | "OUT" | "TAKE" | "ASK" ) WORD | "RAISE"
BODY    = "MUST" TRAIL | ( "NOT" | "CLASH" ) WORD ";" TRAIL | "OPEN" [ STATES ] "|" [ STATES ]
TRAIL   = { ROW ";" } "WAY" WORD { "," WORD }
ROW     = ( "ON" | "BACK" ) WORD "," WORD "," WORD | "ENDS" WORD "," WORD
STATES  = STATE { ";" STATE }
STATE   = "*" { ARROW } | ARROW { ARROW }
ARROW   = WORD NUMBER
"""


def plain_scan(text):
    """The tokens by a pattern, or the column and the words of the first problem."""
    pattern = re.compile(r"(?P<word>[a-z]+|-)|(?P<number>[0-9]+)|(?P<name>[A-Z]+)|(?P<sign>[:,;*|])")
    found, column = [], 0
    while column < len(text):
        if text[column] == " ":
            column += 1
            continue
        match = pattern.match(text, column)
        if match is None:
            return column, NONE_BEGINS
        kind, characters = match.lastgroup, match.group()
        if kind == "name" and characters not in NAMES:
            return column, NO_NAME
        if kind == "number" and len(characters) > 4:
            return column, DIGITS
        found.append((kind, characters, column))
        column = match.end()
    return found + [("end", "", len(text))]


class Grammar:
    """The grammar as it is written, gone through by all ways at once.

    Each part is a number; `steps` has for each part the pairs of what comes next (None for nothing) and a part behind.
    """

    def __init__(self):
        self.steps, self.parts, rules = [], {}, {}
        for line in re.sub(r"\n +\|", " |", GRAMMAR.strip()).split("\n"):
            name, right = line.split("=", 1)
            rules[name.strip()] = right.split()
        self.rules, self.met = rules, {}
        self.starts = {}
        for name in ("TEXT", "SAMPLE", "MACHINE", "PAPER", "RECORDS"):
            last = self.new()
            self.starts[name] = self.rule(name, last)

    def new(self, *steps):
        self.steps.append(list(steps))
        return len(self.steps) - 1

    def rule(self, name, behind):
        part, rest = self.choices(self.rules[name], behind)
        assert not rest
        return part

    def choices(self, pieces, behind):
        """The part for pieces with bars between them, up to a closing bracket; and the pieces left."""
        first, pieces = self.sequence(pieces, behind)
        found = [first]
        while pieces and pieces[0] == "|":
            part, pieces = self.sequence(pieces[1:], behind)
            found.append(part)
        return self.new(*[(None, part) for part in found]), pieces

    def sequence(self, pieces, behind):
        """The part for pieces one behind another, up to a bar or a closing bracket; and the pieces left."""
        groups = []
        while pieces and pieces[0] not in ("|", ")", "]", "}"):
            piece = pieces[0]
            if piece in ("(", "[", "{"):
                depth, end = 1, 1
                while depth:
                    depth += (pieces[end] in ("(", "[", "{")) - (pieces[end] in (")", "]", "}"))
                    end += 1
                groups.append((piece, pieces[1:end - 1]))
                pieces = pieces[end:]
            else:
                groups.append((piece, None))
                pieces = pieces[1:]
        for piece, inner in groups[::-1]:
            behind = self.item(piece, inner, behind)
        return behind, pieces

    def item(self, piece, inner, behind):
        if piece == "(":
            return self.choices(inner, behind)[0]
        if piece == "[":
            return self.new((None, behind), (None, self.choices(inner, behind)[0]))
        if piece == "{":
            part = self.new((None, behind))
            self.steps[part].append((None, self.choices(inner, part)[0]))
            return part
        if piece in ("WORD", "NUMBER", "END"):
            return self.new((piece.lower(), behind))
        if piece.startswith('"'):
            return self.new((piece.strip('"'), behind))
        return self.rule(piece, behind)

    def reached(self, parts):
        """The parts that are come to without any token."""
        met, queue = set(parts), list(parts)
        for part in queue:
            for token, behind in self.steps[part]:
                if token is None and behind not in met:
                    met.add(behind)
                    queue.append(behind)
        return frozenset(met)

    def begin(self, name):
        return self.reached([self.starts[name]])

    def can_come(self, parts):
        return {token for part in parts for token, _ in self.steps[part] if token is not None}

    def behind(self, parts, token):
        """The parts behind a token; each is worked out once."""
        if (parts, token) not in self.met:
            self.met[parts, token] = self.reached(
                [behind for part in parts for other, behind in self.steps[part] if other == token],
            )
        return self.met[parts, token]


WHOLE = Grammar()


def key(token):
    return token[1] if token[0] in ("name", "sign") else token[0]


def strings(tokens):
    """The strings for what can come, in their sequence."""
    order = ["word", "number"] + NAMES + SIGNS + ["end"]
    told = {"word": "a word", "number": "a number", "end": "the end"}
    return [told.get(token, f'"{token}"') for token in sorted(tokens, key=order.index)]


def expected(tokens):
    *ahead, last = strings(tokens)
    return "expected " + (", ".join(ahead) + " or " if ahead else "") + last


def plain_next(text):
    """What `next_tokens` returns, or the problem."""
    tokens = plain_scan(text)
    if isinstance(tokens, tuple):
        return tokens
    parts = WHOLE.begin("TEXT")
    for token in tokens[:-1]:
        if key(token) not in WHOLE.can_come(parts):
            return token[2], expected(WHOLE.can_come(parts))
        parts = WHOLE.behind(parts, key(token))
    return strings(WHOLE.can_come(parts))


class Problems:
    """The problems of points 183 to 185 in a text whose tokens follow the grammar; they are all gathered at first."""

    def __init__(self, tokens):
        self.found, self.lost = [], []
        self.letters = self.word(tokens[1])
        good = 1 <= len(self.letters) <= 4 and sorted(set(self.letters)) == list(self.letters)
        self.note(not good, tokens[1], 0, LETTERS)

    def note(self, wrong, token, rank, problem):
        if wrong:
            self.found.append((token[2], rank, problem))

    def first(self):
        if self.found:
            return min(self.found)[0], min(self.found)[2]
        return (min(self.lost), "this state leads to no end") if self.lost else None

    def word(self, token):
        return "" if token[1] == "-" else token[1]

    def over(self, token):
        word = self.word(token)
        self.note(not set(word) <= set(self.letters), token, 0, OTHER)
        return word

    def sample(self, tokens):
        tokens = [token for token in tokens if token[1] != ","]
        words = [self.over(token) for token in tokens]
        for at, token in enumerate(tokens):
            self.note(at > 0 and oracles.place(words[at]) <= oracles.place(words[at - 1]), token, 1,
                      "the words do not ascend")
            self.note(at == 200, token, 2, "there are more than 200 words")
            self.note(sum(map(len, words[:at + 1])) > 2000, token, 3, "there are more than 2000 letters")
        return tuple(words)

    def machine(self, tokens):
        states = split(tokens, ";") if tokens else []
        arrows = [[token for token in state if token[1] != "*"] for state in states]
        ahead, rows = [0], []
        for at, state in enumerate(states):
            numbers = [int(token[1]) for row in arrows[:at] for token in row[1::2]]
            self.note(at == 400, state[0], 0, "there are more than 400 states")
            self.note(at > 0 and at not in numbers, state[0], 1, "no word leads to this state")
            row = {}
            for place in range(0, len(arrows[at]), 2):
                letter, number = arrows[at][place:place + 2]
                strange = len(letter[1]) != 1 or letter[1] not in self.letters
                self.note(strange, letter, 2, "an arrow has one of the letters")
                self.note(place > 0 and letter[1] <= arrows[at][place - 2][1], letter, 3,
                          "the letters of a state do not ascend")
                target = int(number[1])
                self.note(target >= len(states), number, 0, "there is no such state")
                self.note(target > len(set(ahead)), number, 1, "the next new state has another number")
                ahead.append(target)
                row[letter[1]] = target
            rows.append(tuple(row.get(letter) for letter in self.letters))
        ends = [at for at, state in enumerate(states) if state[0][1] == "*"]
        useful = set(ends)
        for _ in states:
            useful |= {at for at, row in enumerate(rows) if any(to in useful for to in row)}
        self.lost += [state[0][2] for at, state in enumerate(states) if at not in useful]
        return self.letters, tuple(rows), tuple(ends)

    def trail(self, tokens):
        *rows, way = split(tokens, ";")
        told = []
        for row in rows:
            words = row[1::2]
            made = [row[0][1].lower(), self.over(words[0]), self.over(words[1])]
            if row[0][1] != "ENDS":
                letter = self.word(words[2])
                self.note(len(letter) != 1 or letter not in self.letters, words[2], 0, "a letter is expected")
                made.append(letter)
            told.append(tuple(made))
        return tuple(told), tuple(self.over(token) for token in way[1::2])

    def body(self, name, tokens):
        if name == "MUST":
            return ("must",) + self.trail(tokens)
        if name in ("NOT", "CLASH"):
            return ("must not" if name == "NOT" else "clash", self.over(tokens[0])) + self.trail(tokens[2:])
        if name == "FREE":
            return "free", self.machine(tokens)
        one, two = split(tokens, "|")
        return "open", self.machine(one), self.machine(two)

    def records(self, tokens):
        records = []
        deeds = [at for at, token in enumerate(tokens) if token[1] in ("IN", "OUT", "TAKE", "ASK", "RAISE")]
        for at, end in zip(deeds, deeds[1:] + [len(tokens)]):
            command, *papers = split(tokens[at:end], "PAPER")
            name = command[0][1]
            told = [{"TAKE": "back"}.get(name, name.lower())]
            if name != "RAISE":
                told.append(self.over(command[1]))
                most = 100 if name == "ASK" else 12
                self.note(len(told[1]) > most, command[1], 1, f"a word has more than {most} letters")
            fresh = tuple((int(paper[0][1]), self.body(paper[1][1], paper[2:])) for paper in papers)
            records.append((tuple(told), fresh))
        return tuple(records)


def split(tokens, sign):
    """The tokens between the signs."""
    found = [[]]
    for token in tokens:
        if token[1] == sign:
            found.append([])
        else:
            found[-1].append(token)
    return found


def plain_read(name, text):
    """What the reader for this part of the grammar returns, or the column and the words of the problem."""
    tokens = plain_scan(text)
    if isinstance(tokens, tuple):
        return tokens
    parts = WHOLE.begin(name)
    for token in tokens:
        if key(token) not in WHOLE.can_come(parts):
            return token[2], expected(WHOLE.can_come(parts))
        parts = WHOLE.behind(parts, key(token))
    problems = Problems(tokens)
    if name == "SAMPLE":
        value = problems.letters, problems.sample(tokens[3:-1])
    elif name == "MACHINE":
        value = problems.machine(tokens[3:-1])
    elif name == "PAPER":
        value = problems.letters, problems.body(tokens[0][1], tokens[3:-1])
    else:
        look = int(tokens[2][1])
        problems.note(look > 12, tokens[2], 0, "there is no such look")
        value = problems.letters, look, problems.records(tokens[4:-1])
    return problems.first() or value


# What is written.


def word_text(word):
    return word or "-"


def words_text(words):
    return ", ".join(map(word_text, words))


def states_text(machine):
    letters, rows, ends = machine
    told = []
    for at, row in enumerate(rows):
        arrows = [f"{letter} {to}" for letter, to in zip(letters, row) if to is not None]
        told.append(" ".join(["*"] * (at in ends) + arrows))
    return "; ".join(told)


def trail_text(rows, way):
    told = [f"{row[0].upper()} {words_text(row[1:])}; " for row in rows]
    return "".join(told) + "WAY " + words_text(way)


def content_text(paper):
    name, *content = paper
    if name == "must":
        return trail_text(*content)
    if name == "free":
        return states_text(content[0])
    if name == "open":
        return " ".join(part for part in (states_text(content[0]), "|", states_text(content[1])) if part)
    return f"{word_text(content[0])}; {trail_text(*content[1:])}"


def head_text(name, letters, content):
    return f"{name} {letters}:" + (" " + content if content else "")


def plain_paper(letters, paper):
    return head_text(paper_name(paper), letters, content_text(paper))


def paper_name(paper):
    return {"must not": "NOT"}.get(paper[0], paper[0].upper())


def plain_sample(letters, sample):
    return head_text("SAMPLE", letters, words_text(sample))


def plain_machine(machine):
    return head_text("MACHINE", machine[0], states_text(machine))


def plain_records(letters, k, records):
    told = []
    for command, fresh in records:
        name = {"back": "TAKE"}.get(command[0], command[0].upper())
        told.append(" ".join([name] + list(map(word_text, command[1:]))))
        told += [f"PAPER {number} {paper_name(paper)} {content_text(paper)}" for number, paper in fresh]
    return head_text("RECORDS", f"{letters} {k}", " ".join(told))


# Values that have texts.


def random_word(chance, letters, most=4):
    return "".join(chance.choice(letters) for _ in range(chance.randint(0, most)))


def random_trail(chance, letters):
    rows = []
    for _ in range(chance.randint(0, 3)):
        rule = chance.choice(("on", "ends", "back"))
        row = (rule, random_word(chance, letters), random_word(chance, letters))
        rows.append(row if rule == "ends" else row + (chance.choice(letters),))
    return tuple(rows), tuple(random_word(chance, letters) for _ in range(chance.randint(1, 4)))


def random_paper(chance, letters, names=("must", "must not", "clash", "free", "open")):
    name = chance.choice(names)
    if name == "must":
        return (name,) + random_trail(chance, letters)
    if name in ("must not", "clash"):
        return (name, random_word(chance, letters)) + random_trail(chance, letters)
    machines = [oracles.random_machine(chance, letters, chance.randint(1, 4)) for _ in range(1 + (name == "open"))]
    return (name,) + tuple(machines)


def random_command(chance, letters):
    deed = chance.choice(("in", "out", "back", "ask", "raise"))
    return (deed,) if deed == "raise" else (deed, random_word(chance, letters, 12))


def random_records(chance, letters, many=4):
    records = []
    for _ in range(chance.randint(0, many)):
        fresh = tuple(
            (chance.choice((0, 1, 5, 17, 9999)), random_paper(chance, letters, ("must", "must not", "clash", "open")))
            for _ in range(chance.randint(0, 2))
        )
        records.append((random_command(chance, letters), fresh))
    return tuple(records)


def random_text(seed):
    """A text of any kind, and the part of the grammar to which it belongs."""
    chance = random.Random(seed)
    letters = chance.choice(("a", "ab", "abc", "bx", "wxyz"))
    name = chance.choice(("SAMPLE", "MACHINE", "PAPER", "PAPER", "RECORDS", "RECORDS"))
    if name == "SAMPLE":
        return name, plain_sample(letters, oracles.random_sample(chance, letters, 6, 5))
    if name == "MACHINE":
        return name, plain_machine(oracles.random_machine(chance, letters, chance.randint(1, 6)))
    if name == "PAPER":
        return name, plain_paper(letters, random_paper(chance, letters))
    return name, plain_records(letters, chance.randint(0, 12), random_records(chance, letters))
