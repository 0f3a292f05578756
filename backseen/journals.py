"""Journals, carried out once more."""

from backseen.commands import need_journal
from backseen.desk import Desk


def replayed(letters, k, journal):
    """Return the desk that begins with the letters and the look and carries out the commands of the journal."""
    need_journal(letters, k, journal)
    desk = Desk(letters, k)
    for command in journal:
        desk.act(command)
    return desk
