"""The tokens of texts."""

from backseen.errors import BadValue, TextError
from backseen.words import ALPHABET

MOST_CHARACTERS = 20000
MOST_DIGITS = 4
DIGITS = "0123456789"
CAPITALS = "ABCDEFGHIJKLMNOPQRSTUVWXYZ"
SIGNS = ":,;*|"
NAMES = (
    "SAMPLE", "MACHINE", "MUST", "NOT", "CLASH", "FREE", "OPEN", "ON", "ENDS", "BACK", "WAY", "RECORDS", "IN", "OUT",
    "TAKE", "ASK", "RAISE", "PAPER",
)
BLANK = " "
EMPTY_WORD = "-"


def need_text(text):
    """Refuse what is not a string of at most 20000 characters without a newline."""
    if type(text) != str or len(text) > MOST_CHARACTERS or "\n" in text:
        raise BadValue("text")


def run_of(characters, text, column):
    """Return the longest sequence of these characters that stands in the text from the column on."""
    end = column
    while end < len(text) and text[end] in characters:
        end += 1
    return text[column:end]


def token_at(text, column):
    """Return the token that begins at the column, where no blank is."""
    first = text[column]
    if first in SIGNS:
        return "sign", first, column
    if first == EMPTY_WORD:
        return "word", first, column
    if first in ALPHABET:
        return "word", run_of(ALPHABET, text, column), column
    if first in DIGITS:
        return "number", run_of(DIGITS, text, column), column
    if first in CAPITALS:
        return "name", run_of(CAPITALS, text, column), column
    raise TextError(column, "no token begins here")


def need_token(token):
    """Refuse a name that there is not, and a number with too many digits."""
    kind, characters, column = token
    if kind == "name" and characters not in NAMES:
        raise TextError(column, "there is no such name")
    if kind == "number" and len(characters) > MOST_DIGITS:
        raise TextError(column, "a number has at most 4 digits")


def scan(text):
    """Return the list of the tokens of the text."""
    need_text(text)
    tokens = []
    column = 0
    while column < len(text):
        if text[column] == BLANK:
            column += 1
        else:
            token = token_at(text, column)
            need_token(token)
            tokens.append(token)
            column += len(token[1])
    tokens.append(("end", "", len(text)))
    return tokens
