"""The closures of whole languages, of one or of two put together, and evidence about them."""

from backseen.classed import Classes
from backseen.comparing import first_outside
from backseen.errors import BadValue
from backseen.joined import LedTable, are_complete, groups_of_rows, is_led_way
from backseen.looked import Looked
from backseen.looking import keeps_property
from backseen.machines import MOST_STATES, is_machine, is_state, is_taken, least, need_machine, need_two_machines
from backseen.papers import MOST_ROWS
from backseen.words import is_tuple_of, need_look, need_word


def need_machines(machines):
    """Refuse what is not a tuple of one machine, or of two over the same letters."""
    if not is_tuple_of(machines, 1, 2) or not all(is_machine(machine) for machine in machines):
        raise BadValue("machines")
    if machines[0][0] != machines[-1][0]:
        raise BadValue("machines")


def table_of_wholes(machines, k):
    """Return the table of the looked states of the machines, the numbers of those of the second one increased.

    It raises TooLarge("looked") if there are more than 400 looked states in all.
    """
    rows = []
    ends = []
    leads = []
    starts = []
    for machine in machines:
        first = len(rows)
        looked = Looked(least(machine), k, MOST_STATES - first)
        rows.extend([tuple([None if target is None else first + target for target in row]) for row in looked.rows])
        ends.extend([first + end for end in looked.ends])
        leads.extend([word for _, word in looked.pairs])
        if first > 0 and len(rows) > first:
            starts.append((0, first))
    return LedTable(rows, ends, leads, k, starts)


def classes_of_wholes(machines, k):
    """Return the classes of the looked states of the machines."""
    return Classes(machines[0][0], table_of_wholes(machines, k))


def closure_of(machine, k):
    """Return the least machine of the closure of the language of the machine."""
    need_machine(machine)
    need_look(k)
    return classes_of_wholes((machine,), k).as_least()


def together(machine, other, k):
    """Return the least machine of the closure of the words that at least one of two machines takes."""
    need_two_machines(machine, other)
    need_look(k)
    return classes_of_wholes((machine, other), k).as_least()


def whole_classes(machines, k):
    """Return the tuple of the classes of joined looked states."""
    need_machines(machines)
    need_look(k)
    found = classes_of_wholes(machines, k)
    return tuple([tuple(found.class_members(state)) for state in range(len(found.rows))])


def row_with_letter(letters, entry):
    """Return an entry of the log of the joins as a row of evidence."""
    rule, one, other, letter = entry
    return (rule, one, other) if rule == "ends" else (rule, one, other, letters[letter])


def rows_of_wholes(found):
    """Return the rows of evidence that join all looked states that are joined."""
    return tuple([row_with_letter(found.letters, entry) for entry in found.joiner.log])


def whole_paper(machines, k, word):
    """Return evidence that the word is in the closure of the machines' languages, or that it is free."""
    need_machines(machines)
    need_look(k)
    need_word(machines[0][0], word)
    found = classes_of_wholes(machines, k)
    if found.has_word(word):
        return "must", rows_of_wholes(found), tuple(found.way_along(word, found.states_along(word)))
    return "free", found.as_least()


def whole_joins(machines, k):
    """Return a paper of the joins, in which every row joins what the rows before it have not joined."""
    need_machines(machines)
    need_look(k)
    return rows_of_wholes(classes_of_wholes(machines, k))


def entry_of_row(letters, many, row):
    """Return a row of evidence with a number in the place of its letter, or None if it has not the form of one.

    There are so many looked states.
    """
    if not is_tuple_of(row, 3, 4) or type(row[0]) != str:
        return None
    if not is_state(row[1], many) or not is_state(row[2], many):
        return None
    if len(row) == 3:
        return (row[0], row[1], row[2], None) if row[0] == "ends" else None
    if row[0] not in ("on", "back") or type(row[3]) != str or len(row[3]) != 1 or row[3] not in letters:
        return None
    return row[0], row[1], row[2], letters.index(row[3])


def groups_of_paper(letters, table, value):
    """Return what the rows of evidence have joined, or None if the value is not rows that are all good."""
    if not is_tuple_of(value, 0, MOST_ROWS):
        return None
    entries = [entry_of_row(letters, len(table.rows), row) for row in value]
    if None in entries:
        return None
    return groups_of_rows(table, entries)


def is_must_paper(letters, table, word, rows, way):
    """Tell whether the rows and the way are evidence that the word is in the closure."""
    groups = groups_of_paper(letters, table, rows)
    if groups is None or not is_tuple_of(way, len(word) + 1, len(word) + 1):
        return False
    if not all([is_state(item, len(table.rows)) for item in way]):
        return False
    return is_led_way(table, groups, letters, word, way)


def is_free_paper(machines, k, word, value):
    """Tell whether the value is a machine that shows that the word is free."""
    if not is_machine(value) or value[0] != machines[0][0] or is_taken(value, word):
        return False
    return keeps_property(value, k) and all([first_outside(machine, value) is None for machine in machines])


def accepts_whole(machines, k, word, value):
    """Tell whether the value is evidence that the word is in the closure, or that it is free."""
    need_machines(machines)
    need_look(k)
    need_word(machines[0][0], word)
    table = table_of_wholes(machines, k)
    if not is_tuple_of(value, 2, 3) or type(value[0]) != str:
        return False
    if value[0] == "must" and len(value) == 3:
        return is_must_paper(machines[0][0], table, word, value[1], value[2])
    return value[0] == "free" and len(value) == 2 and is_free_paper(machines, k, word, value[1])


def accepts_whole_joins(machines, k, value):
    """Tell whether the value is a paper of the joins."""
    need_machines(machines)
    need_look(k)
    table = table_of_wholes(machines, k)
    groups = groups_of_paper(machines[0][0], table, value)
    return groups is not None and are_complete(table, groups)


def first_added(machine, k):
    """Return the first word that is in the closure and not in the language of the machine, or None."""
    need_machine(machine)
    need_look(k)
    return first_outside(classes_of_wholes((machine,), k).as_least(), machine)
