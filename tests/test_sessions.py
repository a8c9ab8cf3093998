"""Points 1 and 19: sessions, their texts, and saying them again."""

import random
import unittest

from lockturns.desks import Desk
from lockturns.errors import BadLine, BadString, TooMany
from lockturns.locktexts import write_lock
from lockturns.sessions import Session, first_unlike, read_session
from samples import FIVE, LOCKS, NO_TEXTS, SQUARE, TOO_LONG, TRIANGLE

LINES = ("many", "turn 1 2 0", "stands", "home", "turn 1 0 2", "turn 9", "undo", "", "   ", "sing",
         "prime", "lower", "all 2", "write 1 not x0", "write 2 x9", "made 1 x0", "all 7", "most",
         "weights", "derived", "> many", "< 6", "| turn 1 0", " undo ", "made 2 (x0 xor x1)",
         "\ttab", "\r", "\u00e9 \u2028", "turn 1 2 3 4 0", "turn 1 2 3 0", "all 1")

LONG = "made 2 " + "(x0 and " * 15 + "x1" + ")" * 15

# A text, and the line and the place that BadLine tells.
BAD_SESSIONS = (
    # Lines that begin otherwise.
    ("", 1, 1), ("\n", 1, 1), ("turn 1 0", 1, 1), ("|turn 1 0", 1, 1), (" | turn 1 0", 1, 1),
    ("x", 1, 1), ("< 5", 1, 1), ("| turn 1 0\n", 2, 1), ("| turn 1 0\n\n", 2, 1),
    ("\n| turn 1 0", 1, 1), ("| turn 1 0\nmany", 2, 1), ("| turn 1 0\n>many\n< 2", 2, 1),
    ("| turn 1 0\n > many\n< 2", 2, 1), ("| turn 1 0\n>\n< what", 2, 1),
    ("| turn 1 0\n> many\n<2", 3, 1), ("| turn 1 0\n> many\n<", 3, 1),
    ("| turn 1 0\n> many\n> many\n< 2", 3, 1), ("| turn 1 0\n< 2", 2, 1),
    ("| turn 1 0\n> many\n< 2\n< 2", 4, 1), ("| turn 1 0\n> many\n< 2\n", 4, 1),
    ("| turn 1 0\n> many\n< 2\n\n> many\n< 2", 4, 1), ("| turn 1 0\n> many\n\n< 2", 3, 1),
    ("| turn 1 0\n> many\n< 2\n| turn 1 0", 4, 1), ("| turn 1 0\n> many\n| turn 1 0\n< 2", 3, 1),
    ("| turn 1 0\nturn 0 1\n> many\n< 2", 2, 1), ("| turn 1 0\n|", 2, 1),
    ("| turn 1 0\n\n| turn 0 1", 2, 1), ("| turn 1 0\r\n> many\r\n< 2\r\n", 4, 1),
    # A lacking answer.
    ("| turn 1 0\n> many", 3, 1), ("| turn 1 0\n> many\n< 2\n> undo", 5, 1), ("> many", 2, 1),
    ("| turn 1 0\n| turn 0 1\n\n", 3, 1),
    # Both come ahead of what is wrong with the lock.
    ("| turn 1 1\n> many", 3, 1), ("| x\n\n", 2, 1), ("| turn 1 1\n> many\n< 2\nx", 4, 1),
    # As read_lock tells it.
    ("| turn 1 1", 1, 3), ("| turn 1 1\n> many\n< 2", 1, 3), ("| ", 2, 1), ("|  \n|   ", 3, 1),
    ("| turn 1 0\n| turn 1 0 2\n> many\n< 2", 2, 4), ("| turn 1 0\n| \n| x", 3, 1),
    ("| turn 1 0\n" * 5 + "> many\n< 2", 5, 1), ("| | turn 1 0", 1, 1), ("| turn 1 0\r", 1, 3),
    # No line of a lock: its text is a void one.
    ("> many\n< 5", 2, 1), ("> many\n< 5\n> many\n< 5", 2, 1),
)


def said_to(session, lines):
    return [session.say(line) for line in lines]


class SessionTest(unittest.TestCase):
    def test_example(self):
        session = Session("turn 1 0")
        answers = [session.say("most"), session.say("turn 1 0")]
        self.assertEqual(
            [answers, session.text(), first_unlike("| turn 1 0\n> many\n< 5")],
            [["1", "1 0"], "| turn 1 0\n> most\n< 1\n> turn 1 0\n< 1 0", 0])

    def test_it_says_what_a_desk_answers(self):
        for name, (lock, *_) in LOCKS.items():
            desk = Desk()
            desk.take_lock(write_lock(lock))
            session = Session(write_lock(lock))
            for line in LINES:
                self.assertEqual(session.say(line), desk.say(line), (name, line))

    def test_log(self):
        session = Session(write_lock(TRIANGLE))
        self.assertEqual(session.log, ())
        answers = said_to(session, LINES)
        self.assertEqual(session.log, tuple(zip(LINES, answers)))
        kept = session.log
        session.say("many")
        self.assertEqual(kept, tuple(zip(LINES, answers)))
        self.assertEqual(session.log, kept + (("many", "6"),))

    def test_text_is_read_again(self):
        for name, (lock, *_) in LOCKS.items():
            session = Session(write_lock(lock))
            self.assertEqual(read_session(session.text()), (lock, ()))
            self.assertIsNone(first_unlike(session.text()))
            said_to(session, LINES)
            self.assertEqual(read_session(session.text()), (lock, session.log), name)
            self.assertIsNone(first_unlike(session.text()), name)

    def test_told_texts(self):
        session = Session("\n  turn  1 2 0 \n\n turn 1 0 2\n")
        self.assertEqual(session.text(), "| turn 1 2 0\n| turn 1 0 2")
        said_to(session, ["", " many "])
        self.assertEqual(session.text(),
                         "| turn 1 2 0\n| turn 1 0 2\n> \n< what\n>  many \n< 6")

    def test_no_lines(self):
        session = Session("turn 1 0")
        session.say("many")
        for line in NO_TEXTS + ("\n", "many\n", "\nmany", "ma\nny", "turn 1 0\nturn 0 1", "\n\n"):
            with self.subTest(line=line), self.assertRaises(BadString):
                session.say(line)
        self.assertEqual(session.log, (("many", "2"),))

    def test_too_many_goes_through(self):
        session = Session(write_lock(FIVE))
        session.say("many")
        with self.assertRaises(TooMany) as caught:
            session.say(LONG)
        self.assertEqual(caught.exception.most, 6000)
        # There is no answer, and so no pair.
        self.assertEqual(session.log, (("many", "60"),))
        self.assertEqual(session.say("stands"), "0 1 2 3 4")
        self.assertIsNone(first_unlike(session.text()))

    def test_no_locks(self):
        for text in NO_TEXTS + (TRIANGLE,):
            with self.subTest(text=text), self.assertRaises(BadString):
                Session(text)
        for text, line, place in (("", 2, 1), ("turn 1 1", 1, 3), ("| turn 1 0", 1, 1),
                                  ("turn 1 0\n\nx", 3, 1)):
            with self.assertRaises(BadLine) as caught:
                Session(text)
            self.assertEqual((caught.exception.line, caught.exception.place), (line, place))
        for lock in TOO_LONG:
            with self.assertRaises(TooMany) as caught:
                Session("\n".join("turn " + " ".join(map(str, given)) for given in lock))
            self.assertEqual(caught.exception.most, 240)


class ReadSessionTest(unittest.TestCase):
    def test_told_texts(self):
        for text, pairs in (
                ("| turn 1 0", ()), ("| turn 1 0\n> many\n< 2", (("many", "2"),)),
                ("|   turn  1 0 \n|  \n> \n< ", (("", ""),)),
                ("| turn 1 0\n>   many\n<  2 ", (("  many", " 2 "),)),
                ("| turn 1 0\n> > many\n< < 2\n> | x\n< x", (("> many", "< 2"), ("| x", "x"))),
                ("| \n| turn 1 0\n> a\n< b\n> c\n< d", (("a", "b"), ("c", "d")))):
            with self.subTest(text=text):
                self.assertEqual(read_session(text), (((1, 0),), pairs))

    def test_bad_lines(self):
        for text, line, place in BAD_SESSIONS:
            for function in (read_session, first_unlike):
                with self.subTest(text=text), self.assertRaises(BadLine) as caught:
                    function(text)
                self.assertEqual((caught.exception.line, caught.exception.place), (line, place))

    def test_no_texts(self):
        for text in NO_TEXTS:
            for function in (read_session, first_unlike):
                with self.subTest(text=text), self.assertRaises(BadString):
                    function(text)

    def test_too_many_turns(self):
        for lock in TOO_LONG:
            text = "\n".join("| turn " + " ".join(map(str, given)) for given in lock)
            # Reading asks nothing of the turns; saying the lines again does.
            self.assertEqual(read_session(text + "\n> many\n< 2"), (lock, (("many", "2"),)))
            for rest in ("", "\n> many\n< 2"):
                with self.assertRaises(TooMany) as caught:
                    first_unlike(text + rest)
                self.assertEqual(caught.exception.most, 240)


class FirstUnlikeTest(unittest.TestCase):
    def test_a_changed_answer_at_each_place(self):
        for lock in (TRIANGLE, SQUARE, FIVE):
            session = Session(write_lock(lock))
            said_to(session, LINES)
            lines = session.text().split("\n")
            places = [place for place, line in enumerate(lines) if line.startswith("< ")]
            self.assertEqual(len(places), len(LINES))
            for pair, place in enumerate(places):
                for answer in (lines[place] + " ", "< ", "< 5 5"):
                    changed = lines[:place] + [answer] + lines[place + 1:]
                    self.assertEqual(first_unlike("\n".join(changed)), pair)

    def test_the_first_of_several(self):
        drawn = random.Random(31)
        session = Session(write_lock(TRIANGLE))
        said_to(session, LINES)
        for _ in range(30):
            wrong = sorted(drawn.sample(range(len(LINES)), drawn.randint(1, 5)))
            pairs = [(line, "other" if place in wrong else answer)
                     for place, (line, answer) in enumerate(session.log)]
            text = "\n".join(["| turn 1 2 0", "| turn 1 0 2"] + [
                f"> {line}\n< {answer}" for line, answer in pairs])
            self.assertEqual(first_unlike(text), wrong[0])

    def test_lines_are_said_in_their_order(self):
        self.assertIsNone(first_unlike(
            "| turn 1 2 0\n> turn 1 2 0\n< 1 2 0\n> turn 1 2 0\n< 2 0 1\n> undo\n< 1 2 0"))
        self.assertEqual(first_unlike(
            "| turn 1 2 0\n> turn 1 2 0\n< 1 2 0\n> turn 1 2 0\n< 1 2 0\n> undo\n< 1 2 0"), 1)
        self.assertEqual(first_unlike("| turn 1 2 0\n> undo\n< 0 1 2\n> stands\n< 1 2 0"), 1)

    def test_equal_answers_only(self):
        for answer in ("6 ", " 6", "06", "", "6.", "six"):
            self.assertEqual(first_unlike(f"| turn 1 2 0\n| turn 1 0 2\n> many\n< {answer}"), 0)
        self.assertIsNone(first_unlike("| turn 1 2 0\n| turn 1 0 2\n> many\n< 6"))

    def test_too_many_goes_through(self):
        text = "\n".join("| " + line for line in write_lock(FIVE).split("\n"))
        with self.assertRaises(TooMany) as caught:
            first_unlike(f"{text}\n> {LONG}\n< x")
        self.assertEqual(caught.exception.most, 6000)


if __name__ == "__main__":
    unittest.main()
