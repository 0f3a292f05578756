"""The grammar of texts, and which tokens can come in it.

A part of the grammar is a tuple of items, one behind another. An item is a token, or a tuple: ("or", ..) with parts, of
which one stands there, or ("maybe", ..) and ("many", ..) with items that stand there once or not at all, or any number
of times. Tokens are "word", "number" and "end", and names and signs as they are written.
"""

from backseen.errors import TextError
from backseen.scanning import NAMES, SIGNS


def trail():
    """Return the part TRAIL."""
    row = ("or", (("or", ("ON",), ("BACK",)), "word", ",", "word", ",", "word"), ("ENDS", "word", ",", "word"))
    return ("many", row, ";"), "WAY", "word", ("many", ",", "word")


def states():
    """Return the part [ STATES ]."""
    arrows = ("many", "word", "number")
    state = ("or", ("*", arrows), ("word", "number", arrows))
    return (("maybe", state, ("many", ";", state)),)


def sample_part():
    """Return the part SAMPLE."""
    return "SAMPLE", "word", ":", ("maybe", "word", ("many", ",", "word")), "end"


def machine_part():
    """Return the part MACHINE."""
    return ("MACHINE", "word", ":") + states() + ("end",)


def paper_part():
    """Return the part PAPER."""
    must = ("MUST", "word", ":") + trail() + ("end",)
    other = (("or", ("NOT",), ("CLASH",)), "word", ":", "word", ";") + trail() + ("end",)
    free = ("FREE", "word", ":") + states() + ("end",)
    both = ("OPEN", "word", ":") + states() + ("|",) + states() + ("end",)
    return (("or", must, other, free, both),)


def records_part():
    """Return the part RECORDS."""
    deed = ("or", (("or", ("IN",), ("OUT",), ("TAKE",), ("ASK",)), "word"), ("RAISE",))
    other = (("or", ("NOT",), ("CLASH",)), "word", ";") + trail()
    body = ("or", ("MUST",) + trail(), other, ("OPEN",) + states() + ("|",) + states())
    return "RECORDS", "word", "number", ":", ("many", deed, ("many", "PAPER", "number", body)), "end"


def text_part():
    """Return the part TEXT."""
    return (("or", sample_part(), machine_part(), paper_part(), records_part()),)


def tokens_ahead(part):
    """Return a dict that has, for each token with which the part can begin, the part that then stands behind it.

    At the end of the part stands the end of a text, so it is never empty.
    """
    item, behind = part[0], part[1:]
    if type(item) == str:
        return {item: behind}
    if item[0] == "or":
        found = {}
        for choice in item[1:]:
            found.update(tokens_ahead(choice + behind))
        return found
    found = tokens_ahead(behind)
    again = (item,) if item[0] == "many" else ()
    found.update(tokens_ahead(item[1:] + again + behind))
    return found


def told(tokens):
    """Return the list of the strings that tell the tokens of the grammar, in the sequence in which they are told."""
    found = ["a word"] if "word" in tokens else []
    if "number" in tokens:
        found.append("a number")
    found.extend([f'"{token}"' for token in list(NAMES) + list(SIGNS) if token in tokens])
    if "end" in tokens:
        found.append("the end")
    return found


def expected(tokens):
    """Return the words of the problem at a place where one of these tokens is expected."""
    strings = told(tokens)
    if len(strings) == 1:
        return "expected " + strings[0]
    return "expected " + ", ".join(strings[:-1]) + " or " + strings[-1]


def part_behind(part, tokens):
    """Return the part of the grammar that is left behind the tokens, or refuse the first one that cannot come."""
    for kind, characters, column in tokens:
        ahead = tokens_ahead(part)
        token = characters if kind in ("name", "sign") else kind
        if token not in ahead:
            raise TextError(column, expected(ahead))
        part = ahead[token]
    return part
