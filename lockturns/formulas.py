"""Rows that write a formula by its parts, for locks that are not solvable."""

from lockturns.alls import undone_steps
from lockturns.errors import NoWay, TooMany
from lockturns.perms import back_of, bracket_of, product_of, rounds_of, still_of
from lockturns.rows import MOST_STEPS
from lockturns.series import derived
from lockturns.tasks import formula_tree


def formula_row(lock, inputs, text):
    """Return (row, turn): the row is the turn where a formula is yes, elsewhere still."""
    lasting = derived(lock)[-1]
    tree = formula_tree(inputs, text)
    if len(lasting) == 1:
        raise NoWay()
    # Counted first: the row of a deep formula could not even be built.
    if many_steps(tree) > MOST_STEPS:
        raise TooMany(MOST_STEPS)
    pairs = bracket_pairs(lasting)
    turn = min(pairs)
    return tuple(steps_for(pairs, tree, turn)), turn


def many_steps(tree):
    """Return how many steps a formula's row has."""
    if isinstance(tree, int):
        return 1
    if tree[0] == "not":
        return many_steps(tree[1])
    both = many_steps(tree[1]) + many_steps(tree[2])
    return 3 * both if tree[0] == "xor" else 2 * both


def bracket_pairs(lasting):
    """Return a dict from turns to two others of it whose commutator each of them is.

    They are those of the derived series' last term that come back after an odd number of
    rounds, more than one. That term is alike to the even turns of five places or to the
    168 turns of the seven points and lines: no other can last among 240 turns of nine
    places. In both each of these turns is the commutator of two of them. What undoes one
    of them, or does it twice, is one of them too.
    """
    odd = [turn for turn in lasting if rounds_of(turn) > 1 and rounds_of(turn) & 1 == 1]
    pairs = {}
    for one in odd:
        for other in odd:
            pairs[bracket_of(one, other)] = (one, other)
    return {turn: pairs[turn] for turn in odd}


def steps_for(pairs, tree, turn):
    """Return steps that make a turn where a formula is yes, and the still one elsewhere."""
    if isinstance(tree, int):
        return [(tree, still_of(len(turn)), turn)]
    if tree[0] == "not":
        return unless(steps_for(pairs, tree[1], back_of(turn)), turn)
    word, one, other = tree
    if word == "and":
        return both_steps(pairs, one, other, turn)
    if word == "or":
        neither = both_steps(pairs, ("not", one), ("not", other), back_of(turn))
        return unless(neither, turn)
    # Where both are yes the turn is done twice, and so is undone twice behind that.
    twice = both_steps(pairs, one, other, back_of(product_of(turn, turn)))
    return steps_for(pairs, one, turn) + steps_for(pairs, other, turn) + twice


def both_steps(pairs, one, other, turn):
    """Return steps that make a turn where two formulas are yes, and else the still one."""
    first, second = pairs[turn]
    ahead = steps_for(pairs, one, first)
    behind = steps_for(pairs, other, second)
    return ahead + behind + undone_steps(ahead) + undone_steps(behind)


def unless(steps, turn):
    """Return steps that make a turn where others are still, given those that undo it."""
    own, no, yes = steps[-1]
    return steps[:-1] + [(own, product_of(no, turn), product_of(yes, turn))]
