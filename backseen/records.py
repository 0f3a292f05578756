"""Records: commands of a desk with the papers that are brought behind them, and whether these are right."""

from backseen.commands import MOST_COMMANDS, first_moment, is_command, is_right_paper
from backseen.machines import is_state
from backseen.words import is_tuple_of, need_letters, need_look


def are_numbered(value, many):
    """Tell whether the value is a tuple of pairs, of which the first items are ascending numbers of so many words."""
    if not is_tuple_of(value, 0, many):
        return False
    if not all(is_tuple_of(pair, 2, 2) and is_state(pair[0], many) for pair in value):
        return False
    return all([value[at][0] < value[at + 1][0] for at in range(len(value) - 1)])


def are_right(letters, k, records):
    """Tell whether the records are right for the letters and the look with which a desk begins."""
    need_letters(letters)
    need_look(k)
    if not is_tuple_of(records, 0, MOST_COMMANDS):
        return False
    moment = first_moment(k)
    papers = {}
    for record in records:
        if not is_tuple_of(record, 2, 2) or not is_command(letters, record[0]):
            return False
        command, fresh = record
        if moment.reason_against(command) is not None:
            return False
        moment = moment.after(command)
        if not are_numbered(fresh, len(moment.asked)):
            return False
        for number, paper in fresh:
            papers[number] = paper
        for number, word in enumerate(moment.asked):
            if number not in papers or not is_right_paper(letters, moment, word, papers[number]):
                return False
    return True
