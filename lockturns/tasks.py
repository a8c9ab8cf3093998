"""Tasks: their tables, the formulas that tell them, and their polynomials."""

from lockturns.errors import BadNumber, BadSign, BadString, BadTask
from lockturns.perms import are_numbers, is_number

MOST_INPUTS = 6
PRIMES = (2, 3, 5, 7)
JOINERS = ("and", "or", "xor")
MOST_AROUND = 20
RUN_SIGNS = "abcdefghijklmnopqrstuvwxyz0123456789"


def table_of(inputs, text):
    """Return the table of a formula."""
    tree = formula_tree(inputs, text)
    many = 1 << inputs
    leaves = [bits_of(input_table(inputs, own)) for own in range(inputs)]
    bits = worth_of(tree, leaves, (1 << many) - 1)
    return tuple([(bits >> place) & 1 for place in range(many)])


def all_of(inputs):
    """Return the table that is yes only if all inputs are."""
    check_inputs(inputs)
    return (0,) * ((1 << inputs) - 1) + (1,)


def polynomial(prime, table):
    """Return the parts of a table's polynomial modulo a prime, the shorter ones first."""
    check_prime(prime)
    check_table(table)
    factors = factors_of(prime, table)
    parts = [part_of(place) for place in range(len(table))]
    order = sorted([(len(part), part, factor) for part, factor in zip(parts, factors)])
    return tuple([(part, factor) for _, part, factor in order if factor != 0])


def degree(prime, table):
    """Return the greatest number of inputs of a part, None for a table without a yes."""
    return max([len(part) for part, _ in polynomial(prime, table)], default=None)


def check_inputs(inputs):
    """Raise BadNumber for what is no number of inputs."""
    if not is_number(inputs) or not 1 <= inputs <= MOST_INPUTS:
        raise BadNumber()


def check_prime(prime):
    """Raise BadNumber for what is none of the primes that are let."""
    # True and False would be found as 1 and 0, which are none of these.
    if prime not in PRIMES:
        raise BadNumber()


def check_table(table):
    """Raise BadTask for what is no table of a task."""
    if not are_numbers(table) or not all([bit in (0, 1) for bit in table]):
        raise BadTask()
    if len(table) not in [1 << inputs for inputs in range(1, MOST_INPUTS + 1)]:
        raise BadTask()


def inputs_of(table):
    """Return the number of inputs of a table, which has been checked."""
    return len(table).bit_length() - 1


def input_table(inputs, own):
    """Return the table that is yes exactly if one input is."""
    return tuple([(place >> own) & 1 for place in range(1 << inputs)])


def bits_of(table):
    """Return a table as one number, of which each place's yes is a part."""
    return sum([bit << place for place, bit in enumerate(table)])


def part_of(place):
    """Return the ascending tuple of the inputs that are yes in a place of a table."""
    return tuple([own for own in range(MOST_INPUTS) if (place >> own) & 1])


def factors_of(prime, table):
    """Return the factors of a table's polynomial: in place t that of the inputs in t."""
    factors = list(table)
    for own in range(inputs_of(table)):
        # Where an input is no, the parts with it are worth nothing: they are the difference.
        for place in range(len(table)):
            if (place >> own) & 1:
                factors[place] = (factors[place] - factors[place - (1 << own)]) % prime
    return factors


def formula_tree(inputs, text):
    """Return a formula as a tree: an input's number, or a word and one or two trees."""
    check_inputs(inputs)
    if not isinstance(text, str):
        raise BadString()
    words = placed_words(text)
    names = [f"x{own}" for own in range(inputs)]
    tree, at = tree_from(names, words, 0, 0)
    if at < len(words) - 1:
        raise BadSign(words[at][0])
    return tree


def placed_words(text):
    """Return the list of pairs (place, word) of a text, behind them a void word."""
    words = []
    start = 0
    for place, sign in enumerate(text):
        if sign not in RUN_SIGNS:
            if start < place:
                words.append((start, text[start:place]))
            if sign != " ":
                words.append((place, sign))
            start = place + 1
    if start < len(text):
        words.append((start, text[start:]))
    # The void word can stand nowhere, and its place is the one of a text that ends early.
    words.append((len(text), ""))
    return words


def tree_from(names, words, at, around):
    """Return (tree, at): the formula that begins with a word, and what word comes behind.

    Names are those of the inputs; around is within how many others the formula stands.
    """
    place, word = words[at]
    if around > MOST_AROUND:
        raise BadSign(place)
    if word in names:
        return names.index(word), at + 1
    if word == "not":
        tree, at = tree_from(names, words, at + 1, around + 1)
        return (word, tree), at
    if word != "(":
        raise BadSign(place)
    left, at = tree_from(names, words, at + 1, around + 1)
    joiner = expected(words, at, JOINERS)
    right, at = tree_from(names, words, at + 1, around + 1)
    expected(words, at, (")",))
    return (joiner, left, right), at + 1


def expected(words, at, wanted):
    """Return the word at a place among the words; raise BadSign if it is not wanted."""
    place, word = words[at]
    if word not in wanted:
        raise BadSign(place)
    return word


def worth_of(tree, leaves, every):
    """Return a formula's table as one number; leaves and every are those of the inputs
    and of the task that is always yes."""
    if isinstance(tree, int):
        return leaves[tree]
    one = worth_of(tree[1], leaves, every)
    if tree[0] == "not":
        return every ^ one
    other = worth_of(tree[2], leaves, every)
    if tree[0] == "and":
        return one & other
    if tree[0] == "or":
        return one | other
    return one ^ other
