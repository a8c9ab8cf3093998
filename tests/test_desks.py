"""Points 1 and 18: a desk."""

import random
import unittest

from lockturns.alls import all_row
from lockturns.desks import Desk
from lockturns.errors import BadLine, BadString, TooMany
from lockturns.formulas import formula_row
from lockturns.fulls import row_for
from lockturns.locks import all_turns
from lockturns.locktexts import read_row, write_lock, write_row
from lockturns.rows import writes
from lockturns.tasks import all_of, table_of
from samples import FIVE, LOCKS, NO_TEXTS, SQUARE, TOO_LONG, TRIANGLE, then, undone

ALONE = ("undo", "stands", "home", "many", "lower", "derived", "prime", "weights", "most")
FOLLOWED = ("turn 1 2 0", "turn", "turn x", "all 2", "all", "all 9", "all 2 2", "write 2 x0",
            "write", "write 9 x0", "write 1", "made 2 x0", "made", "made x0", "made 2 (x0")

# No such line is answered, whatever the lock is.
WHATS = ("", " ", "     ", "sing", "Turn 1 2 0", "UNDO", "undone", "undo.", "stands?", "many;",
         "lower derived", "undo undo", "undo 1", "stands 0", "home 1 2 0", "many 6", "prime 2",
         "weights x", "most 2", "derived -", "lower lower", "turns 1 2 0", "turn1 2 0", "all2",
         "write2 x0", "made2 x0", "x0", "1", "1 2 0", "what", "no lock", "undo\n", "\nundo",
         "\tundo", "undo\t", "many\u00a0", "turn\t1 2 0", "all\t2", "made\n2 x0", "- many")

# The words that tell no number of inputs.
NO_NUMBER_WORDS = ("0", "7", "8", "10", "64", "-1", "+2", "02", "2.0", "2,", "x", "x0", "two",
                   "\u0662", "\u00b2", "2\t", "(x0", "not", "True", "None", "-", "2;", "1_0")


def told(turn):
    return " ".join(str(place) for place in turn)


def lock_text(lock):
    return "\n".join("turn " + told(given) for given in lock)


def desk_with(lock):
    desk = Desk()
    desk.take_lock(lock_text(lock))
    return desk


class DeskTest(unittest.TestCase):
    def test_example(self):
        desk = Desk()
        self.assertIsNone(desk.take_lock("turn 1 2 3 0"))
        self.assertEqual(
            [desk.say(line) for line in
             ["many", "weights", "most", "turn 1 2 3 0", "home", "write 1 x0", "sing"]],
            ["4", "1 1", "3", "1 2 3 0", "3 0 1 2", "no way", "what"])

    def test_without_a_lock(self):
        desk = Desk()
        for line in ALONE + FOLLOWED:
            self.assertEqual(desk.say(line), "no lock", line)
        for line in WHATS:
            self.assertEqual(desk.say(line), "what", line)

    def test_other_words(self):
        for lock in (TRIANGLE, SQUARE, FIVE, ((0, 1),)):
            desk = desk_with(lock)
            for line in WHATS:
                with self.subTest(line=line):
                    self.assertEqual(desk.say(line), "what")
        for line in NO_TEXTS + ([], {}, (1, 2, 0), ["undo"], ("undo",)):
            self.assertEqual(Desk().say(line), "what")
            self.assertEqual(desk_with(TRIANGLE).say(line), "what")

    def test_the_dial(self):
        for name, (lock, *_) in LOCKS.items():
            desk = desk_with(lock)
            stood = [tuple(range(len(lock[0])))]
            drawn = random.Random(30)
            turns = all_turns(lock)
            self.assertEqual([desk.say(line) for line in ("stands", "home", "undo")],
                             [told(stood[0])] * 3)
            for _ in range(12):
                if drawn.random() < 0.7:
                    turn = drawn.choice(turns)
                    stood.append(then(stood[-1], turn))
                    self.assertEqual(desk.say("turn " + told(turn)), told(stood[-1]), name)
                else:
                    stood = stood[:max(len(stood) - 1, 1)]
                    self.assertEqual(desk.say("undo"), told(stood[-1]), name)
                self.assertEqual([desk.say("stands"), desk.say("home")],
                                 [told(stood[-1]), told(undone(stood[-1]))])

    def test_no_turn(self):
        desk = desk_with(SQUARE)
        for words in ("", " ", "1", "1 2 3", "1 2 3 0 0", "1 2 3 0 4", "1 0 2 3", "1 1 2 3",
                      "1 2 3 4", "x", "1 2 3 x", "01 2 3 0", "+1 2 3 0", "-1 2 3 0", "1230",
                      "1, 2, 3, 0", "(1 2 3 0)", "1\t2 3 0", "1 2 3 0\n", "1 2 3 \u0660",
                      "turn 1 2 3 0", "undo", "1 2 0", "0 1 2 3 4"):
            for line in (f"turn {words}", f"  turn   {words} "):
                with self.subTest(line=line):
                    self.assertEqual(desk.say(line), "no turn")
        self.assertEqual([desk.say("stands"), desk.say("turn 1 2 3 0")], ["0 1 2 3", "1 2 3 0"])

    def test_spaces(self):
        desk = desk_with(TRIANGLE)
        for line, answer in (("many ", "6"), ("   many", "6"), ("  lower  ", "6 3"),
                             ("  turn   1  2 0 ", "1 2 0"), (" home", "2 0 1"), ("all  7 ", None),
                             ("  write   1    (x0   or   x0)  ", desk.say("write 1 (x0 or x0)")),
                             ("   all   1   ", desk.say("all 1")), ("made 1  x0", "no way")):
            self.assertEqual(desk.say(line), answer or "no such number", line)

    def test_told_answers(self):
        for name, lines in {
                "square": ("8", "8 2 1", "8 2 1", "2", "2 1", "4"),
                "eight round": ("8", "8 1", "8 1", "2", "1 1 0 1", "7"),
                "nine round": ("9", "9 1", "9 1", "3", "1 0 1", "8"),
                "three round": ("3", "3 1", "3 1", "3", "1", "2"),
                "triangle": ("6", "6 3", "6 3 1", "-", "no prime", "any"),
                "even five": ("60", "60", "60", "-", "no prime", "any"),
                "five": ("120", "120 60", "120 60", "-", "no prime", "any"),
                "four": ("24", "24 12", "24 12 4 1", "-", "no prime", "any"),
                "still": ("1", "1", "1", "-", "no prime", "no prime"),
                "two and three round": ("6", "6 1", "6 1", "-", "no prime", "no prime"),
                "threes over three": ("81", "81 9 3 1", "81 9 1", "3", None, None),
                "square and three round": ("24", "24 2 1", "24 2 1", "-", "no prime", "no prime"),
                }.items():
            desk = desk_with(LOCKS[name][0])
            for word, answer in zip(("many", "lower", "derived", "prime", "weights", "most"), lines):
                if answer is not None:
                    self.assertEqual(desk.say(word), answer, (name, word))

    def test_weights_come_to_the_number_of_turns_and_to_most(self):
        for name, (lock, many, _, _, prime) in LOCKS.items():
            if prime is not None:
                desk = desk_with(lock)
                found = [int(word) for word in desk.say("weights").split(" ")]
                self.assertEqual(prime ** sum(found), many, name)
                self.assertGreater(found[-1], 0)
                total = sum((place + 1) * part for place, part in enumerate(found))
                self.assertEqual(desk.say("most"), str((prime - 1) * total), name)


class RowsTest(unittest.TestCase):
    def check(self, lock, inputs, table, line, wanted):
        answer = desk_with(lock).say(line)
        row, turn = wanted
        self.assertEqual(answer, "; ".join(
            [told(turn)] + [f"x{own} no {told(no)} yes {told(yes)}" for own, no, yes in row]))
        # What is answered writes the task.
        parts = answer.split("; ")
        read = read_row(lock, inputs, "\n".join(parts[1:]))
        turn = tuple(int(word) for word in parts[0].split(" "))
        self.assertIs(writes(lock, table, read, turn), True)
        self.assertEqual(write_row(lock, inputs, read), "\n".join(parts[1:]))

    def test_all(self):
        for name in ("two places", "square", "triangle", "even five", "seven round"):
            lock = LOCKS[name][0]
            for inputs in (1, 2, 4, 6):
                if name not in ("two places", "square") or inputs == 1:
                    self.check(lock, inputs, all_of(inputs), f"all {inputs}",
                               all_row(lock, inputs))
        self.assertEqual(desk_with(((1, 0),)).say("all 1"), "1 0; x0 no 0 1 yes 1 0")

    def test_write(self):
        for name in ("triangle", "even four", "even five", "five beside two"):
            lock = LOCKS[name][0]
            for inputs, text in ((1, "x0"), (1, "not x0"), (2, "(x0 xor x1)"),
                                 (3, "not (x0 and (x1 or not x2))"), (6, "(x0 xor x5)")):
                table = table_of(inputs, text)
                self.check(lock, inputs, table, f"write {inputs} {text}", row_for(lock, table))

    def test_made(self):
        for name in ("even five", "five", "five beside two", "seven lines"):
            lock = LOCKS[name][0]
            for inputs, text in ((1, "x0"), (1, "not x0"), (2, "(x0 xor x1)"),
                                 (3, "not (x0 and (x1 or not x2))"), (6, "(x0 xor x5)")):
                self.check(lock, inputs, table_of(inputs, text), f"made {inputs} {text}",
                           formula_row(lock, inputs, text))

    def test_rows_of_no_steps(self):
        for lock in (TRIANGLE, FIVE):
            for text in ("(x0 or not x0)", "(x0 and not x0)"):
                row, turn = row_for(lock, table_of(1, text))
                self.assertEqual(row, ())
                self.assertEqual(desk_with(lock).say(f"write 1 {text}"), told(turn))

    def test_no_prime_and_no_way(self):
        for name, (lock, _, dying, solved, prime) in LOCKS.items():
            desk = desk_with(lock)
            for inputs in range(1, 7):
                if dying and prime is None:
                    self.assertEqual(desk.say(f"all {inputs}"), "no prime", name)
                elif dying and inputs > int(desk.say("most")):
                    self.assertEqual(desk.say(f"all {inputs}"), "no way", name)
                else:
                    self.assertTrue(desk.say(f"all {inputs}").startswith(tuple("0123456789")))
                for word, lacking in (("write", dying), ("made", solved)):
                    answer = desk.say(f"{word} {inputs} (x0 and not x0)")
                    self.assertEqual(answer == "no way", lacking, name)

    def test_no_formula(self):
        # A formula that cannot stand comes ahead of what the lock cannot do.
        for lock in (TRIANGLE, FIVE, SQUARE, ((0, 1),)):
            desk = desk_with(lock)
            for word in ("write", "made"):
                for text in ("", "x2", "x", "x0 x1", "(x0 and x1", "X0", "not", "x0 and x1",
                             "not " * 21 + "x0", "2 x0", "(x0\tand x1)", "x0\n"):
                    with self.subTest(text=text):
                        self.assertEqual(desk.say(f"{word} 2 {text}"), "no formula")
                self.assertEqual(desk.say(f"{word} 2"), "no formula")

    def test_no_such_number(self):
        for lock in (TRIANGLE, FIVE, SQUARE, ((0, 1),), LOCKS["two and three round"][0]):
            desk = desk_with(lock)
            for word in ("all", "write", "made"):
                self.assertEqual(desk.say(word), "no such number")
                self.assertEqual(desk.say(f"  {word}  "), "no such number")
                for number in NO_NUMBER_WORDS:
                    for rest in ("", " x0", " x9", " ("):
                        with self.subTest(word=word, number=number):
                            self.assertEqual(desk.say(f"{word} {number}{rest}"), "no such number")
            for line in ("all 1 1", "all 2 x0", "all 1 -", "all 6 all 6", "all 1 2 3"):
                self.assertEqual(desk.say(line), "no such number")

    def test_too_many_goes_through(self):
        desk = desk_with(FIVE)
        desk.say("turn 1 2 0 3 4")
        line = "made 2 " + "(x0 and " * 15 + "x1" + ")" * 15
        for _ in range(2):
            with self.assertRaises(TooMany) as caught:
                desk.say(line)
            self.assertEqual(caught.exception.most, 6000)
            # The desk works on behind it.
            self.assertEqual([desk.say("stands"), desk.say("many")], ["1 2 0 3 4", "60"])
        self.assertEqual(desk_with(TRIANGLE).say(line), "no way")

    def test_the_dial_is_left_alone(self):
        desk = desk_with(FIVE)
        desk.say("turn 1 2 0 3 4")
        for line in ALONE[1:] + ("all 3", "write 2 (x0 xor x1)", "made 1 x0", "turn", "what"):
            desk.say(line)
            self.assertEqual(desk.say("stands"), "1 2 0 3 4")


class TakeLockTest(unittest.TestCase):
    def test_texts(self):
        for lock, *_ in LOCKS.values():
            desk = Desk()
            desk.take_lock("\n  \n" + write_lock(lock).replace(" ", "   ") + "\n\n")
            self.assertEqual(desk.say("many"), str(len(all_turns(lock))))

    def test_another_lock_starts_still(self):
        desk = desk_with(TRIANGLE)
        desk.say("turn 1 2 0")
        desk.take_lock("turn 1 2 3 0")
        self.assertEqual([desk.say("stands"), desk.say("many"), desk.say("undo")],
                         ["0 1 2 3", "4", "0 1 2 3"])
        desk.say("turn 1 2 3 0")
        desk.take_lock("turn 1 2 3 0")
        self.assertEqual(desk.say("stands"), "0 1 2 3")

    def test_wrong_texts(self):
        for with_lock in (False, True):
            desk = desk_with(TRIANGLE) if with_lock else Desk()
            desk.say("turn 1 2 0")
            for text in NO_TEXTS + (TRIANGLE,):
                with self.subTest(text=text), self.assertRaises(BadString):
                    desk.take_lock(text)
            for text, line, place in (("", 2, 1), ("turn 1 1", 1, 3), ("turn 1 0\nx", 2, 1),
                                      ("turn 1 0\n" * 5, 5, 1)):
                with self.assertRaises(BadLine) as caught:
                    desk.take_lock(text)
                self.assertEqual((caught.exception.line, caught.exception.place), (line, place))
            for lock in TOO_LONG:
                with self.assertRaises(TooMany) as caught:
                    desk.take_lock(lock_text(lock))
                self.assertEqual(caught.exception.most, 240)
            # What was refused was not taken: the one at work stays as it stands.
            self.assertEqual([desk.say("stands"), desk.say("many")],
                             ["1 2 0", "6"] if with_lock else ["no lock", "no lock"])

    def test_desks_do_not_share(self):
        one, other = desk_with(TRIANGLE), Desk()
        self.assertEqual([one.say("many"), other.say("many")], ["6", "no lock"])


if __name__ == "__main__":
    unittest.main()
