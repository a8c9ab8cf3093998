"""A desk: a lock at work that answers lines of words."""

from lockturns.alls import all_row, most_all
from lockturns.benches import Dial
from lockturns.errors import BadSign, NotPrime, NoWay
from lockturns.formulas import formula_row
from lockturns.fulls import row_for
from lockturns.locks import all_turns
from lockturns.locktexts import read_lock, spaced, words_in, write_row
from lockturns.series import derived, lower, prime
from lockturns.tasks import table_of
from lockturns.weights import exponents

NUMBERS = ("1", "2", "3", "4", "5", "6")
NO_PRIME = "no prime"


class Desk:
    """A desk, to begin with without a lock."""

    def __init__(self):
        self._lock = None
        self._dial = None

    def take_lock(self, text):
        """Take the lock of a text, at work from the still turn on."""
        lock = read_lock(text)
        # The dial refuses a lock with too many turns: then the one at work stays.
        self._dial = Dial(lock)
        self._lock = lock

    def say(self, line):
        """Return the answer to a line of words, any value."""
        words = words_in(line) if isinstance(line, str) else []
        if not is_known(words):
            return "what"
        if self._dial is None:
            return "no lock"
        if words[0] in LOCK_ANSWERS:
            answer = LOCK_ANSWERS[words[0]]
            return answer(self._lock)
        if words[0] in DIAL_ANSWERS:
            answer = DIAL_ANSWERS[words[0]]
            return answer(self._dial)
        if words[0] == "turn":
            return turn_answer(self._lock, self._dial, words[1:])
        return row_answer(self._lock, words)


def is_known(words):
    """Tell whether words are such as a desk with a lock has an answer to."""
    if len(words) == 1 and (words[0] in LOCK_ANSWERS or words[0] in DIAL_ANSWERS):
        return True
    return len(words) > 0 and words[0] in ("turn", "all", "write", "made")


def turn_answer(lock, dial, words):
    """Do the turn of the lock whose places are told."""
    turns = {spaced(turn): turn for turn in all_turns(lock)}
    told = " ".join(words)
    if told not in turns:
        return "no turn"
    return spaced(dial.turn(turns[told]))


def row_answer(lock, words):
    """Tell the turn and the row that the words all, write or made ask for."""
    if len(words) < 2 or words[1] not in NUMBERS or (words[0] == "all" and len(words) > 2):
        return "no such number"
    inputs = int(words[1])
    try:
        row, turn = wanted_row(lock, words[0], inputs, " ".join(words[2:]))
    except NotPrime:
        return NO_PRIME
    except NoWay:
        return "no way"
    except BadSign:
        return "no formula"
    # The text of a row of no steps is void, but has a line.
    lines = write_row(lock, inputs, row).split("\n") if row else []
    return "; ".join([spaced(turn)] + lines)


def wanted_row(lock, word, inputs, text):
    """Return the (row, turn) that a word asks for."""
    if word == "all":
        return all_row(lock, inputs)
    if word == "write":
        return row_for(lock, table_of(inputs, text))
    return formula_row(lock, inputs, text)


def undo_answer(dial):
    """Take back the last turn."""
    return spaced(dial.undo())


def stands_answer(dial):
    """Tell where the dial stands."""
    return spaced(dial.stands)


def home_answer(dial):
    """Tell the turn that leads back to the still one."""
    return spaced(dial.home())


def many_answer(lock):
    """Tell how many turns a lock has."""
    return str(len(all_turns(lock)))


def lower_answer(lock):
    """Tell how many turns the terms of the lower central series have."""
    return spaced([len(term) for term in lower(lock)])


def derived_answer(lock):
    """Tell how many turns the terms of the derived series have."""
    return spaced([len(term) for term in derived(lock)])


def prime_answer(lock):
    """Tell the prime of a lock."""
    base = prime(lock)
    return "-" if base is None else str(base)


def weights_answer(lock):
    """Tell the exponents of the terms by weight."""
    # No dash is needed: a lock with a prime has a first term, all its turns.
    return NO_PRIME if prime(lock) is None else spaced(exponents(lock))


def most_answer(lock):
    """Tell of how many inputs at most all can be written."""
    try:
        most = most_all(lock)
    except NotPrime:
        return NO_PRIME
    return "any" if most is None else str(most)


DIAL_ANSWERS = {"undo": undo_answer, "stands": stands_answer, "home": home_answer}
LOCK_ANSWERS = {
    "many": many_answer, "lower": lower_answer, "derived": derived_answer,
    "prime": prime_answer, "weights": weights_answer, "most": most_answer}
