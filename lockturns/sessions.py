"""Sessions: a desk's lines and answers, written down and said again."""

from lockturns.desks import Desk
from lockturns.errors import BadLine, BadString
from lockturns.locktexts import check_text, read_lock, write_lock

LOCK_MARK = "| "
LINE_MARK = "> "
ANSWER_MARK = "< "


class Session:
    """A desk with the lock of a text, and what it was told and has answered."""

    def __init__(self, text):
        self._desk = Desk()
        self._desk.take_lock(text)
        self._lock = read_lock(text)
        self._log = []

    def say(self, line):
        """Return what the desk answers to a line."""
        if not isinstance(line, str) or "\n" in line:
            raise BadString()
        answer = self._desk.say(line)
        self._log.append((line, answer))
        return answer

    def text(self):
        """Return the text of the lock, the lines and the answers."""
        lines = [LOCK_MARK + line for line in write_lock(self._lock).split("\n")]
        for line, answer in self._log:
            lines.extend([LINE_MARK + line, ANSWER_MARK + answer])
        return "\n".join(lines)

    @property
    def log(self):
        """The tuple of the pairs (line, answer)."""
        return tuple(self._log)


def read_session(text):
    """Return (lock, pairs) of a session's text."""
    check_text(text)
    lines = text.split("\n")
    start = 0
    while start < len(lines) and lines[start].startswith(LOCK_MARK):
        start += 1
    check_marks(lines, start)
    told = [unmarked(line) for line in lines]
    lock = read_lock("\n".join(told[:start]))
    return lock, tuple(list(zip(told[start::2], told[start + 1::2])))


def first_unlike(text):
    """Return the place of the first pair whose answer is another one now, None without."""
    lock, pairs = read_session(text)
    session = Session(write_lock(lock))
    for line, _ in pairs:
        session.say(line)
    for place, (pair, again) in enumerate(zip(pairs, session.log)):
        if pair != again:
            return place
    return None


def check_marks(lines, start):
    """Raise BadLine unless lines and answers take turns from a start on, to an answer."""
    for place in range(start, len(lines)):
        mark = ANSWER_MARK if (place - start) & 1 == 1 else LINE_MARK
        if not lines[place].startswith(mark):
            raise BadLine(place + 1, 1)
    if (len(lines) - start) & 1 == 1:
        raise BadLine(len(lines) + 1, 1)


def unmarked(line):
    """Return a line without the mark that it begins with."""
    return line[len(LINE_MARK):]
