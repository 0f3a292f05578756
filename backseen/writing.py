"""Writing samples, machines, papers and records as texts."""

from backseen.errors import BadValue, TooLarge
from backseen.forms import are_records, is_paper
from backseen.machines import need_machine
from backseen.scanning import EMPTY_WORD, MOST_CHARACTERS
from backseen.words import need_letters, need_look, need_sample

NAMES_OF_PAPERS = {"must": "MUST", "must not": "NOT", "clash": "CLASH", "free": "FREE", "open": "OPEN"}
NAMES_OF_ROWS = {"on": "ON", "ends": "ENDS", "back": "BACK"}
NAMES_OF_DEEDS = {"in": "IN", "out": "OUT", "back": "TAKE", "ask": "ASK", "raise": "RAISE"}


def word_token(word):
    """Return the token of a word."""
    return EMPTY_WORD if word == "" else word


def with_sign(sign, parts):
    """Return the tokens of the parts, one behind another, with the sign between any two of them."""
    tokens = []
    for at, part in enumerate(parts):
        if at > 0:
            tokens.append(sign)
        tokens.extend(part)
    return tokens


def word_tokens(words):
    """Return the tokens of words with commas between them."""
    return with_sign(",", [[word_token(word)] for word in words])


def state_tokens(letters, row, is_end):
    """Return the tokens of a state."""
    tokens = ["*"] if is_end else []
    for letter, target in zip(letters, row):
        if target is not None:
            tokens.extend([letter, str(target)])
    return tokens


def machine_tokens(machine):
    """Return the tokens of the states of a machine."""
    letters, rows, ends = machine
    is_end = {end: True for end in ends}
    return with_sign(";", [state_tokens(letters, row, state in is_end) for state, row in enumerate(rows)])


def trail_tokens(rows, way):
    """Return the tokens of the rows and the way of a paper."""
    tokens = []
    for row in rows:
        tokens.append(NAMES_OF_ROWS[row[0]])
        tokens.extend(word_tokens(row[1:]))
        tokens.append(";")
    return tokens + ["WAY"] + word_tokens(way)


def content_tokens(paper):
    """Return the tokens of what stands in a paper behind its name and letters."""
    if paper[0] == "free":
        return machine_tokens(paper[1])
    if paper[0] == "open":
        return machine_tokens(paper[1]) + ["|"] + machine_tokens(paper[2])
    if paper[0] == "must":
        return trail_tokens(paper[1], paper[2])
    return [word_token(paper[1]), ";"] + trail_tokens(paper[2], paper[3])


def record_tokens(record):
    """Return the tokens of a record."""
    command, fresh = record
    tokens = [NAMES_OF_DEEDS[command[0]]] + [word_token(word) for word in command[1:]]
    for number, paper in fresh:
        tokens.extend(["PAPER", str(number), NAMES_OF_PAPERS[paper[0]]])
        tokens.extend(content_tokens(paper))
    return tokens


def joined_text(tokens):
    """Return the text that the tokens make."""
    spaced = [token if token in (":", ",", ";") else " " + token for token in tokens[1:]]
    return tokens[0] + "".join(spaced)


def limited_text(tokens):
    """Return the text that the tokens make, or refuse it if it has more than 20000 characters."""
    text = joined_text(tokens)
    if len(text) > MOST_CHARACTERS:
        raise TooLarge("text")
    return text


def sample_text(letters, sample):
    """Return the text of the sample."""
    need_sample(letters, sample)
    return joined_text(["SAMPLE", letters, ":"] + word_tokens(sample))


def machine_text(machine):
    """Return the text of the machine."""
    need_machine(machine)
    return joined_text(["MACHINE", machine[0], ":"] + machine_tokens(machine))


def paper_text(letters, paper):
    """Return the text of the paper."""
    need_letters(letters)
    if not is_paper(letters, paper):
        raise BadValue("paper")
    return limited_text([NAMES_OF_PAPERS[paper[0]], letters, ":"] + content_tokens(paper))


def records_text(letters, k, records):
    """Return the text of the records."""
    need_letters(letters)
    need_look(k)
    if not are_records(letters, records):
        raise BadValue("records")
    tokens = ["RECORDS", letters, str(k), ":"]
    for record in records:
        tokens.extend(record_tokens(record))
    return limited_text(tokens)
