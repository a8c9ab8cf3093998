"""Rows made tidy, and how few steps a task needs."""

from lockturns.errors import TooMany
from lockturns.locks import all_turns, made_words
from lockturns.perms import back_of, product_of, still_of
from lockturns.rows import check_row, yes_where
from lockturns.tasks import check_inputs, check_table, inputs_of

MOST_TUPLES = 20000


def tidied(lock, inputs, row):
    """Return a row with neighbours of one input joined, without steps that do nothing."""
    made = made_words(lock)
    check_inputs(inputs)
    check_row(made, inputs, row)
    still = still_of(len(lock[0]))
    kept = []
    for own, no, yes in row:
        if kept and kept[-1][0] == own:
            _, no_before, yes_before = kept.pop()
            joined = (own, product_of(no_before, no), product_of(yes_before, yes))
        else:
            joined = (own, no, yes)
        if joined != (own, still, still):
            kept.append(joined)
    return tuple(kept)


def fewest(lock, table):
    """Return how few steps write a task, None if no row does.

    All tuples of turns, by places of the table, are reached that rows with still turns
    for no can make, by one step more at a time.
    """
    turns = all_turns(lock)
    check_table(table)
    if 1 not in table:
        return 0
    leads, to_still = leads_of(turns)
    level = [(0,) * len(table)]
    known = {level[0]: True}
    spread = {}
    many = 0
    while level:
        if any([shows(reached, table) for reached in level]):
            return many
        level = next_level(leads, to_still, known, spread, level)
        many += 1
    return None


def shows(reached, table):
    """Tell whether one turn stands in a tuple exactly where the table, with a yes, is yes."""
    return yes_where(reached, reached[table.index(1)]) == table


def leads_of(turns):
    """Return (leads, to still): for each turn where it leads all others, and for each one
    the list of that kind that leads it to the still turn. Turns are told by their places."""
    places = {turn: place for place, turn in enumerate(turns)}
    leads = [[places[product_of(before, turn)] for before in turns] for turn in turns]
    return leads, [leads[places[back_of(turn)]] for turn in turns]


def next_level(leads, to_still, known, spread, level):
    """Return the tuples that one step more reaches for the first time.

    They are written down in known, and what steps of one input were tried in spread.
    """
    inputs = inputs_of(level[0])
    found = []
    for reached in level:
        for own in range(inputs):
            # Steps of one input lead to the same tuples from all that differ by such a
            # step. The one with a still turn where this input alone is yes stands for them.
            standing = led(reached, own, to_still[reached[1 << own]])
            if (own, standing) not in spread:
                spread[(own, standing)] = True
                for lead in leads:
                    longer = led(standing, own, lead)
                    if longer not in known:
                        known[longer] = True
                        found.append(longer)
                # Here already: that a tuple found among too many writes the task is no help.
                if len(known) > MOST_TUPLES:
                    raise TooMany(MOST_TUPLES)
    return found


def led(reached, own, lead):
    """Return a tuple with what stands where an input is yes led on."""
    return tuple([lead[at] if (place >> own) & 1 else at for place, at in enumerate(reached)])
