"""Texts of locks and rows."""

from lockturns.errors import BadLine, BadString
from lockturns.locks import FEWEST_PLACES, MOST_GIVEN, MOST_PLACES, made_words
from lockturns.rows import MOST_STEPS, check_row
from lockturns.tasks import check_inputs


class WordLine:
    """A line's words, which are read one behind another."""

    def __init__(self, number, words):
        self.number = number
        self.words = words
        self.at = 0

    def take(self, wanted):
        """Return at what place among the wanted words the next word stands."""
        # Behind the last word this tells the number of words and 1, as for a lacking one.
        if self.at == len(self.words) or self.words[self.at] not in wanted:
            raise BadLine(self.number, self.at + 1)
        self.at += 1
        return wanted.index(self.words[self.at - 1])

    def take_places(self, size):
        """Return the permutation of so many places that the next words are."""
        figures = [str(place) for place in range(size)]
        places = []
        for _ in range(size):
            place = self.take(figures)
            if place in places:
                raise BadLine(self.number, self.at)
            places.append(place)
        return tuple(places)

    def take_turn(self, made, size):
        """Return the turn, one of those that were made, that the next words are."""
        first = self.at + 1
        turn = self.take_places(size)
        if turn not in made:
            raise BadLine(self.number, first)
        return turn

    def end(self):
        """Raise BadLine if there are more words."""
        if self.at < len(self.words):
            raise BadLine(self.number, self.at + 1)


def write_lock(lock):
    """Return the text of a lock, a line for each given turn."""
    made_words(lock)
    return "\n".join([f"turn {spaced(given)}" for given in lock])


def read_lock(text):
    """Return the lock of a text."""
    lock = []
    size = 0
    for line in worded_lines(text):
        if len(lock) == MOST_GIVEN:
            raise BadLine(line.number, 1)
        if not lock:
            size = max(FEWEST_PLACES, min(MOST_PLACES, len(line.words) - 1))
        line.take(["turn"])
        lock.append(line.take_places(size))
        line.end()
    if not lock:
        raise BadLine(len(text.split("\n")) + 1, 1)
    return tuple(lock)


def write_row(lock, inputs, row):
    """Return the text of a row, a line for each step."""
    made = made_words(lock)
    check_inputs(inputs)
    check_row(made, inputs, row)
    return "\n".join([f"x{own} no {spaced(no)} yes {spaced(yes)}" for own, no, yes in row])


def read_row(lock, inputs, text):
    """Return the row of a text, of a lock for so many inputs."""
    made = made_words(lock)
    check_inputs(inputs)
    lines = worded_lines(text)
    if len(lines) > MOST_STEPS:
        raise BadLine(lines[MOST_STEPS].number, 1)
    names = [f"x{own}" for own in range(inputs)]
    return tuple([told_step(made, len(lock[0]), names, line) for line in lines])


def told_step(made, size, names, line):
    """Return the step of a line."""
    own = line.take(names)
    line.take(["no"])
    no = line.take_turn(made, size)
    line.take(["yes"])
    yes = line.take_turn(made, size)
    line.end()
    return own, no, yes


def check_text(text):
    """Raise BadString for what is no text."""
    if not isinstance(text, str):
        raise BadString()


def spaced(parts):
    """Return the text of numbers, with a space between."""
    return " ".join([str(part) for part in parts])


def words_in(line):
    """Return the list of a line's words, which are parted by spaces."""
    return [word for word in line.split(" ") if word]


def worded_lines(text):
    """Return the lines of a text that have words, numbered from 1."""
    check_text(text)
    lines = [words_in(line) for line in text.split("\n")]
    return [WordLine(place + 1, words) for place, words in enumerate(lines) if words]
