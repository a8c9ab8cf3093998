"""Rows of steps, and the tasks that they write."""

from lockturns.errors import BadRow, NotPrime
from lockturns.locks import check_turn, is_turn, made_words
from lockturns.perms import is_number, product_of
from lockturns.series import prime
from lockturns.tasks import check_inputs, check_table, degree, inputs_of

MOST_STEPS = 6000


def worths(lock, inputs, row):
    """Return the tuple of a row's products, by places of a table."""
    made = made_words(lock)
    check_inputs(inputs)
    check_row(made, inputs, row)
    return products(made, inputs, row)


def written(lock, inputs, row, turn):
    """Return the table that a row writes with a turn."""
    made = made_words(lock)
    check_inputs(inputs)
    check_row(made, inputs, row)
    check_turn(made, turn)
    return yes_where(products(made, inputs, row), turn)


def writes(lock, table, row, turn):
    """Tell whether a row writes a task with a turn."""
    made = made_words(lock)
    check_table(table)
    inputs = inputs_of(table)
    check_row(made, inputs, row)
    check_turn(made, turn)
    return yes_where(products(made, inputs, row), turn) == table


def degrees(lock, inputs, row):
    """Return the pairs (turn, degree of what the row writes with it) for what it can be."""
    reached = worths(lock, inputs, row)
    base = prime(lock)
    if base is None:
        raise NotPrime()
    return tuple([(turn, degree(base, yes_where(reached, turn))) for turn in sorted(set(reached))])


def check_row(made, inputs, row):
    """Raise BadRow for what is no row of a lock, whose turns were made, for so many inputs."""
    if not isinstance(row, tuple) or len(row) > MOST_STEPS:
        raise BadRow(None)
    for place, step in enumerate(row):
        if not is_step(made, inputs, step):
            raise BadRow(place)


def is_step(made, inputs, value):
    """Tell whether a value, any one, is a step (input, turn for no, turn for yes)."""
    if not isinstance(value, tuple) or len(value) != 3:
        return False
    own, no, yes = value
    return is_number(own) and 0 <= own < inputs and is_turn(made, no) and is_turn(made, yes)


def products(made, inputs, row):
    """Return the tuple of the products of a row that has been checked."""
    turns = sorted(made)
    places = {turn: place for place, turn in enumerate(turns)}
    # Where a turn leads all others is worked out once: a row may have many equal steps.
    leads = {}
    # The still turn is the least of all, and so stands at place 0.
    reached = [0] * (1 << inputs)
    for own, no, yes in row:
        for turn in (no, yes):
            if turn not in leads:
                leads[turn] = [places[product_of(before, turn)] for before in turns]
        chosen = (leads[no], leads[yes])
        reached = [chosen[(place >> own) & 1][at] for place, at in enumerate(reached)]
    return tuple([turns[at] for at in reached])


def yes_where(reached, turn):
    """Return the table that is yes exactly where what is reached is the turn."""
    return tuple([1 if one == turn else 0 for one in reached])
