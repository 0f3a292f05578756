"""The forms of papers and of records that have texts, be they right or not."""

from backseen.commands import is_command
from backseen.machines import is_machine
from backseen.words import is_integer_within, is_over, is_tuple_of

MOST_NUMBER = 9999


def is_trail_row(letters, value):
    """Tell whether the value is a row of a paper over the letters."""
    if not is_tuple_of(value, 3, 4) or type(value[0]) != str:
        return False
    if not is_over(letters, value[1]) or not is_over(letters, value[2]):
        return False
    if len(value) == 3:
        return value[0] == "ends"
    return value[0] in ("on", "back") and is_over(letters, value[3]) and len(value[3]) == 1


def is_trail(letters, rows, way):
    """Tell whether the values are the rows and the way of a paper over the letters."""
    if type(rows) != tuple or type(way) != tuple or len(way) == 0:
        return False
    return all(is_trail_row(letters, row) for row in rows) and all(is_over(letters, word) for word in way)


def is_machine_over(letters, value):
    """Tell whether the value is a machine over the letters."""
    return is_machine(value) and value[0] == letters


def is_paper(letters, value):
    """Tell whether the value is a paper over the letters."""
    if not is_tuple_of(value, 2, 4) or type(value[0]) != str:
        return False
    if value[0] == "must":
        return len(value) == 3 and is_trail(letters, value[1], value[2])
    if value[0] in ("must not", "clash"):
        return len(value) == 4 and is_over(letters, value[1]) and is_trail(letters, value[2], value[3])
    if value[0] == "free":
        return len(value) == 2 and is_machine_over(letters, value[1])
    if value[0] != "open" or len(value) != 3:
        return False
    return is_machine_over(letters, value[1]) and is_machine_over(letters, value[2])


def is_brought(letters, value):
    """Tell whether the value is a number and a paper that may stand in records over the letters."""
    if not is_tuple_of(value, 2, 2) or not is_integer_within(value[0], 0, MOST_NUMBER):
        return False
    return is_paper(letters, value[1]) and value[1][0] != "free"


def is_record(letters, value):
    """Tell whether the value is a command over the letters, and a tuple of numbers and papers."""
    if not is_tuple_of(value, 2, 2) or not is_command(letters, value[0]) or type(value[1]) != tuple:
        return False
    return all(is_brought(letters, pair) for pair in value[1])


def are_records(letters, value):
    """Tell whether the value is records over the letters."""
    return type(value) == tuple and all(is_record(letters, record) for record in value)
