"""Values for the tests, and the document's words worked out the long way."""

import random
from itertools import combinations, permutations

STILL_LOCK = ((0, 1, 2),)
SQUARE = ((1, 2, 3, 0), (3, 2, 1, 0))
TRIANGLE = ((1, 2, 0), (1, 0, 2))
FIVE = ((1, 2, 3, 4, 0), (1, 2, 0, 3, 4))

# name: (lock, number of turns, nilpotent, solvable, prime)
LOCKS = {
    "still": (STILL_LOCK, 1, True, True, None),
    "four times still": (((0, 1),) * 4, 1, True, True, None),
    "two places": (((1, 0),), 2, True, True, 2),
    "three round": (((1, 2, 0),), 3, True, True, 3),
    "four round": (((1, 2, 3, 0),), 4, True, True, 2),
    "five round": (((1, 2, 3, 4, 0),), 5, True, True, 5),
    "seven round": (((1, 2, 3, 4, 5, 6, 0),), 7, True, True, 7),
    "eight round": (((1, 2, 3, 4, 5, 6, 7, 0),), 8, True, True, 2),
    "nine round": (((1, 2, 3, 4, 5, 6, 7, 8, 0),), 9, True, True, 3),
    "two and three round": (((1, 0, 3, 4, 2),), 6, True, True, None),
    "two, three and four round": (((1, 0, 2, 3, 4, 5, 6, 7, 8), (0, 1, 3, 4, 2, 5, 6, 7, 8),
                                   (0, 1, 2, 3, 4, 6, 7, 8, 5)), 24, True, True, None),
    "square": (SQUARE, 8, True, True, 2),
    "square and three round": (((1, 2, 3, 0, 4, 5, 6), (3, 2, 1, 0, 4, 5, 6),
                                (0, 1, 2, 3, 5, 6, 4)), 24, True, True, None),
    "quaternions": (((1, 2, 3, 0, 5, 6, 7, 4), (4, 7, 6, 5, 2, 1, 0, 3)), 8, True, True, 2),
    "twos": (((1, 0, 2, 3, 4, 5, 6, 7, 8), (0, 1, 3, 2, 4, 5, 6, 7, 8),
              (0, 1, 2, 3, 5, 4, 6, 7, 8), (0, 1, 2, 3, 4, 5, 7, 6, 8)), 16, True, True, 2),
    "threes over three": (((1, 2, 0, 3, 4, 5, 6, 7, 8), (3, 4, 5, 6, 7, 8, 0, 1, 2)),
                          81, True, True, 3),
    "octagon": (((1, 2, 3, 4, 5, 6, 7, 0), (7, 6, 5, 4, 3, 2, 1, 0)), 16, True, True, 2),
    "two squares over two": (((1, 0, 2, 3, 4, 5, 6, 7), (2, 3, 0, 1, 4, 5, 6, 7),
                              (4, 5, 6, 7, 0, 1, 2, 3)), 128, True, True, 2),
    "triangle": (TRIANGLE, 6, False, True, None),
    "triangle and two": (((1, 2, 0, 3, 4), (1, 0, 2, 4, 3)), 6, False, True, None),
    "triangle beside two": (((1, 2, 0, 3, 4), (1, 0, 2, 3, 4), (0, 1, 2, 4, 3)),
                            12, False, True, None),
    "even four": (((1, 2, 0, 3), (1, 0, 3, 2)), 12, False, True, None),
    "four": (((1, 2, 3, 0), (1, 0, 2, 3)), 24, False, True, None),
    "twenty of five": (((1, 2, 3, 4, 0), (0, 2, 4, 1, 3)), 20, False, True, None),
    "twelve pointed": (((1, 2, 0, 3, 4, 5, 6), (1, 0, 2, 4, 5, 6, 3)), 12, False, True, None),
    "triangles over two": (((1, 2, 0, 3, 4, 5), (1, 0, 2, 3, 4, 5), (3, 4, 5, 0, 1, 2)),
                           72, False, True, None),
    "even five": (FIVE, 60, False, False, None),
    "five": (((1, 2, 3, 4, 0), (1, 0, 2, 3, 4)), 120, False, False, None),
    "even five of six": (((1, 2, 3, 4, 0, 5), (5, 4, 2, 3, 1, 0)), 60, False, False, None),
    "even five beside two and two": (
        ((1, 2, 3, 4, 0, 5, 6, 7, 8), (1, 2, 0, 3, 4, 5, 6, 7, 8),
         (0, 1, 2, 3, 4, 6, 5, 7, 8), (0, 1, 2, 3, 4, 5, 6, 8, 7)), 240, False, False, None),
    "five beside two": (((1, 2, 3, 4, 0, 5, 6), (1, 0, 2, 3, 4, 5, 6), (0, 1, 2, 3, 4, 6, 5)),
                        240, False, False, None),
    "seven lines": (((1, 2, 3, 4, 5, 6, 0), (0, 1, 4, 3, 2, 6, 5)), 168, False, False, None),
}

# More than 240 turns: 288, 336, 720 and 362880.
TOO_LONG = (
    ((1, 2, 3, 0, 4, 5, 6, 7), (1, 0, 2, 3, 4, 5, 6, 7),
     (0, 1, 2, 3, 5, 6, 4, 7), (0, 1, 2, 3, 5, 4, 7, 6)),
    ((1, 2, 3, 4, 5, 6, 0, 7, 8), (0, 1, 4, 3, 2, 6, 5, 7, 8), (0, 1, 2, 3, 4, 5, 6, 8, 7)),
    ((1, 2, 3, 4, 5, 0), (1, 0, 2, 3, 4, 5)),
    ((1, 2, 3, 4, 5, 6, 7, 8, 0), (1, 0, 2, 3, 4, 5, 6, 7, 8)),
)

# None of these is a lock, a turn, a tuple of turns or a ring.
STRANGE = (
    None, True, False, 0, 1, -1, 10 ** 30, "", "turn", "01", [], {}, [()], [1, 0], [0, 1, 2],
    [[1, 0]], [(1, 0)], {0: 1, 1: 0}, {(1, 0): (1, 0)}, (None,), (True,), ("",), ([],), ({},),
    (0,), (0, 0), (1, 2), (-1, 0), (0, -1), (True, False), (False, True), (1, False), (True, 0),
    ("1", "0"), (None, None), ([1], [0]), ((1,), (0,)), ((1, 0), None), ((True, False),),
    ((1, 0), (False, True)), ((0, 1, 2), [1, 2, 0]), ({0: 1}, {1: 0}), ((((),),),),
    (0, 1, 2, 2), (1, 2, 3), (0, 1, 10 ** 30), (0, 1, None), (0, True, 2), (0, "1", 2),
    (0, [1], 2), (0, {}, 2), (False, 1, 2), (0, 1, [2]), ([0, 1, 2],), ((0, 1, None),),
    ((False, True, 2),),
)

NO_TABLES = (
    None, True, False, 0, 1, 2, "", "01", "0101", [], [0, 1], [0, 1, 0, 1], {}, {0: 0, 1: 1},
    (), (0,), (1,), (0, 1, 0), (0,) * 5, (0,) * 6, (1,) * 7, (0,) * 12, (0,) * 63, (0,) * 65,
    (0,) * 96, (0,) * 128, (1,) * 256, (0, 2), (-1, 0), (0, 1, 1, 2), (True, False), (0, True),
    (False, 0), (0, 1, 0, True), (0, 1, 0, False), ("0", "1"), (0, "1"), (0, None), (0, [1]),
    (0, (1,)), ((0,), (1,)), ((0, 1), (0, 1)), (0, {}), (0, 10 ** 30), (0, 1, "x0", 1),
    (0,) * 63 + (2,), (0,) * 63 + (True,), (0,) * 63 + ("",), ([0, 1],), ((0, 1),),
)

# None of these is a number of inputs.
NO_NUMBERS = (0, 7, -1, 64, True, False, None, "", "2", (2,), [2], {}, {2: 2}, 10 ** 30)

NO_TEXTS = (None, True, False, 0, 1, (), ("x0",), ["x0"], {"x0": 1}, (("x0",),), 10 ** 30)

STILL, ODD, ROUND = (0, 1, 2), (1, 0, 2), (1, 2, 0)
STEP = (0, STILL, ROUND)

# What is no step of TRIANGLE for two inputs.
NO_STEPS = (
    None, True, 0, "", "abc", (), [], {}, (0, STILL), (0, STILL, ODD, ODD), [0, STILL, ODD],
    (2, STILL, ODD), (-1, STILL, ODD), (6, STILL, ODD), (10 ** 30, STILL, ODD),
    (True, STILL, ODD), (False, STILL, ODD), ("0", STILL, ODD), (None, STILL, ODD),
    ((0,), STILL, ODD), ([0], STILL, ODD), ({}, STILL, ODD), ("x0", STILL, ODD),
    (0, None, ODD), (0, STILL, None), (0, list(STILL), ODD), (0, STILL, list(ODD)),
    (0, (0, 1), (1, 0)), (0, STILL, (1, 0)), (0, STILL, (1, 0, 2, 3)), (0, STILL, (1, 1, 2)),
    (0, (), ODD), (0, STILL, (True, False, 2)), (0, (False, True, 2), ODD),
    (0, STILL, (1, 0, "2")), (0, "012", ODD), (0, STILL, 1), (0, 0, 1), (0, STILL, (ODD,)),
    (0, ([0], 1, 2), ODD), (0, STILL, {0: 1}), (STILL, ODD, 0), (STILL, ODD), ((0, STILL, ODD),),
)

NO_TUPLES = (None, True, False, 0, 3, "", "abc", [], [STEP], {}, {0: STEP}, (STEP,) * 6001)


def then(one, other):
    """What stands at a place is led by one, and from there by other."""
    return tuple(other[one[place]] for place in range(len(one)))


def undone(turn):
    return tuple(turn.index(place) for place in range(len(turn)))


def commutator(one, other):
    return then(then(then(one, other), undone(one)), undone(other))


def closed(makers, size):
    """All products of the makers, as a set."""
    found = {tuple(range(size))}
    while True:
        more = found | {then(turn, maker) for turn in found for maker in makers}
        if more == found:
            return found
        found = more


def falling(turns, others):
    """The terms of a series by its definition: others(term) is what stands second."""
    terms = [tuple(sorted(turns))]
    while True:
        made = {commutator(one, two) for one in terms[-1] for two in others(terms[-1])}
        term = tuple(sorted(closed(made, len(terms[0][0]))))
        if len(term) == len(terms[-1]):
            return tuple(terms)
        terms.append(term)


def small_locks():
    """All locks of one or two given turns of 2 to 4 places."""
    for size in (2, 3, 4):
        every = list(permutations(range(size)))
        for one in every:
            yield (one,)
            for other in every:
                yield (one, other)


def power(turn, many):
    reached = tuple(range(len(turn)))
    for _ in range(many):
        reached = then(reached, turn)
    return reached


def conjugated(turn, naming):
    """The same turn with its places named otherwise."""
    led = [0] * len(turn)
    for place, to in enumerate(turn):
        led[naming[place]] = naming[to]
    return tuple(led)


def drawn_prime_locks(seed, many):
    """Locks of a prime's power: 1 to 4 turns of a greatest such lock, places renamed.

    Turns may be given twice, and the still one may be given.
    """
    drawn = random.Random(seed)
    pools = [sorted(closed(LOCKS[name][0], len(LOCKS[name][0][0])))
             for name in ("two squares over two", "threes over three")]
    found = []
    while len(found) < many:
        pool = drawn.choice(pools)
        naming = list(range(len(pool[0])))
        drawn.shuffle(naming)
        lock = [conjugated(drawn.choice(pool), naming) for _ in range(drawn.randint(1, 4))]
        if len(lock) < 4 and drawn.random() < 0.3:
            lock.append(drawn.choice([lock[0], tuple(range(len(naming)))]))
        if any(given != tuple(range(len(naming))) for given in lock):
            found.append(tuple(lock))
    return found


def drawn_row(drawn, turns, inputs, steps):
    return tuple((drawn.randrange(inputs), drawn.choice(turns), drawn.choice(turns))
                 for _ in range(steps))


def product_for(row, size, place):
    """What a row is worth for the inputs of a table's place."""
    reached = tuple(range(size))
    for own, no, yes in row:
        reached = then(reached, yes if place & 2 ** own else no)
    return reached


def factor_by_definition(prime, table, part):
    """A part's factor: by turns added and taken away, what the table is for inputs in it."""
    total = 0
    for many in range(len(part) + 1):
        for chosen in combinations(part, many):
            place = sum(2 ** own for own in chosen)
            total += (-1) ** (len(part) - many) * table[place]
    return total % prime


def degree_by_definition(prime, table):
    inputs = [own for own in range(6) if 2 ** own < len(table)]
    for many in range(len(inputs), -1, -1):
        if any(factor_by_definition(prime, table, part) for part in combinations(inputs, many)):
            return many
    return None


def drawn_formula(drawn, inputs, deep):
    """(text, what it is worth for told inputs), with spaces here and there."""
    kind = drawn.choice(("input", "not", "and", "or", "xor")) if deep else "input"
    if kind == "input":
        own = drawn.randrange(inputs)
        return f"x{own}", lambda told: told[own]
    one, one_worth = drawn_formula(drawn, inputs, deep - 1)
    if kind == "not":
        return "not" + gap(drawn, one[0] != "(") + one, lambda told: 1 - one_worth(told)
    other, other_worth = drawn_formula(drawn, inputs, deep - 1)
    text = ("(" + gap(drawn, False) + one + gap(drawn, one[-1] != ")") + kind
            + gap(drawn, other[0] != "(") + other + gap(drawn, False) + ")")
    if kind == "and":
        return text, lambda told: int(one_worth(told) + other_worth(told) == 2)
    if kind == "or":
        return text, lambda told: int(one_worth(told) + other_worth(told) >= 1)
    return text, lambda told: int(one_worth(told) + other_worth(told) == 1)


def gap(drawn, must):
    return " " * (drawn.choice((0, 0, 1, 1, 2, 5)) or int(must))
