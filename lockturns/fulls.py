"""Rows that write any task, for locks that are not nilpotent."""

from lockturns.alls import ring_row
from lockturns.errors import NoWay
from lockturns.perms import still_of
from lockturns.series import is_dying
from lockturns.tasks import check_table, inputs_of


def can_all(lock):
    """Tell whether every task of any number of inputs can be written for a lock."""
    return not is_dying(lock)


def row_for(lock, table):
    """Return (row, turn) by which a lock writes a task.

    Each place of a table has steps that make the ring's turn there, and the still one in
    all others; behind one another they make it in each of several places. As the nos may
    be taken as well as the yeses, half of the places are enough: 32 times 94 steps.
    """
    dying = is_dying(lock)
    check_table(table)
    if dying:
        raise NoWay()
    steps, turn = ring_row(lock, inputs_of(table))
    fewer = 1 if 2 * sum(table) <= len(table) else 0
    row = []
    for place, bit in enumerate(table):
        if bit == fewer:
            row.extend(steps_at(steps, place))
    if fewer == 0:
        turn = still_of(len(turn))
    return tuple(row), turn


def steps_at(steps, place):
    """Return, of steps for all inputs being yes, those for the inputs of a table's place."""
    return [(own, no, yes) if (place >> own) & 1 else (own, yes, no) for own, no, yes in steps]
