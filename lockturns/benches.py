"""A lock at work."""

from lockturns.errors import BadNumber, BadRow
from lockturns.locks import check_turn, made_words
from lockturns.perms import are_numbers, back_of, product_of, still_of
from lockturns.rows import is_step
from lockturns.tasks import MOST_INPUTS


class Dial:
    """A lock at work, standing at the still turn to begin with."""

    def __init__(self, lock):
        self._made = made_words(lock)
        # Where it stood from the start on, so that undoing only drops the last one.
        self._stood = [still_of(len(lock[0]))]

    def turn(self, turn):
        """Do a turn; return where the dial stands then."""
        check_turn(self._made, turn)
        self._stood.append(product_of(self._stood[-1], turn))
        return self._stood[-1]

    def step(self, step, bits):
        """Do the turn of a step that the inputs choose; return where the dial stands then."""
        if not is_step(self._made, MOST_INPUTS, step):
            raise BadRow(None)
        own, no, yes = step
        if not are_bits(bits) or own >= len(bits):
            raise BadNumber()
        return self.turn(yes if bits[own] == 1 else no)

    def undo(self):
        """Take back the last turn, if there is one; return where the dial stands then."""
        if len(self._stood) > 1:
            self._stood.pop()
        return self._stood[-1]

    def home(self):
        """Return the turn that leads back to the still one."""
        return back_of(self._stood[-1])

    @property
    def stands(self):
        """The product of what is done and not taken back."""
        return self._stood[-1]

    @property
    def done(self):
        """How many turns are done and not taken back."""
        return len(self._stood) - 1


def are_bits(value):
    """Tell whether a value, any one, is a tuple of numbers 0 or 1."""
    return are_numbers(value) and all([bit in (0, 1) for bit in value])
