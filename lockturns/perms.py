"""Permutations of places, without a lock around them; their callers have checked them."""

MOST_TURNS = 240


def is_number(value):
    """Tell whether a value is an integer; True and False are none."""
    return isinstance(value, int) and not isinstance(value, bool)


def are_numbers(value):
    """Tell whether a value, any one, is a tuple of integers."""
    return isinstance(value, tuple) and all([is_number(part) for part in value])


def is_permutation(value, size):
    """Tell whether a value, any one, is a permutation of so many places."""
    return are_numbers(value) and sorted(value) == list(range(size))


def still_of(size):
    """Return the permutation of so many places that moves nothing."""
    return tuple(range(size))


def product_of(one, other):
    """Return the permutation that does one and then the other."""
    return tuple([other[place] for place in one])


def back_of(turn):
    """Return the permutation that undoes one."""
    led_from = [0] * len(turn)
    for place, led in enumerate(turn):
        led_from[led] = place
    return tuple(led_from)


def power_of(turn, many):
    """Return the permutation that does one so often, at least once."""
    reached = turn
    for _ in range(many - 1):
        reached = product_of(reached, turn)
    return reached


def rounds_of(turn):
    """Return how often a permutation must be done, at least once, until nothing is moved."""
    still = still_of(len(turn))
    reached = turn
    many = 1
    while reached != still:
        reached = product_of(reached, turn)
        many += 1
    return many


def bracket_of(one, other):
    """Return the commutator: one, other, one undone, other undone."""
    # One undone and then other undone is what undoes other and then one.
    return product_of(product_of(one, other), back_of(product_of(other, one)))


def words_of(makers, size):
    """Return a dict from all that makers make to the least of its shortest words.

    A word is the tuple of the places of the makers in it. With more than MOST_TURNS to
    find, the search ends early: the dict then tells that they are more, but lacks some.
    """
    still = still_of(size)
    words = {still: ()}
    level = [still]
    while level and len(words) <= MOST_TURNS:
        longer = []
        # A level stands in the order of its words, so the first word found is the least.
        for turn in level:
            for place, maker in enumerate(makers):
                led = product_of(turn, maker)
                if led not in words:
                    words[led] = words[turn] + (place,)
                    longer.append(led)
        level = longer
    return words


def group_of(makers, size):
    """Return (few, turns): the makers that are enough, and the ascending tuple they make."""
    few = []
    turns = [still_of(size)]
    known = {turns[0]: True}
    for maker in makers:
        if maker not in known:
            few.append(maker)
            known = words_of(few, size)
            turns = sorted(known)
    return few, tuple(turns)
