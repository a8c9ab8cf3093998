"""Point 1, over the whole program: errors, their order, and arguments that stay as they are."""

import copy
import itertools
import unittest

from lockturns.alls import all_row, most_all
from lockturns.benches import Dial
from lockturns.desks import Desk
from lockturns.errors import (
    BadLine, BadLock, BadNumber, BadRow, BadSign, BadString, BadTask, BadTurn, LockError, TooMany)
from lockturns.formulas import formula_row
from lockturns.fulls import can_all, row_for
from lockturns.locks import all_turns, is_made, join, rounds, swapped, undo, word_for
from lockturns.locktexts import read_lock, read_row, write_lock, write_row
from lockturns.rows import degrees, worths, writes, written
from lockturns.series import (
    center, derived, is_dying, is_solved, lower, prime, ring, shows_ring)
from lockturns.sessions import Session, first_unlike, read_session
from lockturns.tasks import all_of, degree, polynomial, table_of
from lockturns.tidy import fewest, tidied
from lockturns.weights import chains, told_number, weighed
from samples import FIVE, TOO_LONG

PAIR = ((1, 0),)
ANY = (None, True, False, 17, -1, "", "turn", "x0 x0", [], [1, 0], {}, {0: 1}, (None,), ([],),
       ({},), ("x0",), ((True, False),), ((1, 0), None), ([1, 0],), (0, (0, 1), [1, 0]))

# kind of an argument: what is wrong, and which errors are raised for it.
WRONG = {
    "lock": (ANY + ((), (17,), TOO_LONG[0]), (BadLock, TooMany)),
    "turn": (ANY + ((), (1, 2, 0), (True, False), (1, 1)), (BadTurn,)),
    "turns": (ANY + (((1, 0), (True, False)),), (BadTurn,)),
    "inputs": (ANY + (0, 7), (BadNumber,)),
    "prime": (ANY + (0, 1, 4, 11), (BadNumber,)),
    "table": (ANY + ((), (0, 1, 0), (0, True)), (BadTask,)),
    "row": (tuple(value for value in ANY if value != ()) + (((1, (0, 1), (1, 0)),),), (BadRow,)),
    "step": (ANY + ((), (6, (0, 1), (1, 0))), (BadRow,)),
    "bits": (ANY + ((), (0, 2), (True,)), (BadNumber,)),
    "text": (tuple(value for value in ANY if not isinstance(value, str)), (BadString,)),
}

# What is no lock's text, row's text, session's text or formula for one input.
NO_FORMULAS = (tuple(value for value in ANY if value != "x0") + ("x1",), (BadString, BadSign))
NO_LOCK_TEXTS = (ANY, (BadString, BadLine))
NO_ROW_TEXTS = (tuple(value for value in ANY if value != "") + ("x1",), (BadString, BadLine))

FUNCTIONS = (
    (all_turns, "lock"), (is_made, "lock turn"), (join, "lock turns"), (undo, "lock turn"),
    (rounds, "lock turn"), (swapped, "lock turn turn"), (word_for, "lock turn"),
    (lower, "lock"), (derived, "lock"), (center, "lock"), (is_dying, "lock"),
    (is_solved, "lock"), (prime, "lock"), (ring, "lock"), (shows_ring, "lock any"),
    (table_of, "inputs formula"), (all_of, "inputs"), (polynomial, "prime table"),
    (degree, "prime table"), (worths, "lock inputs row"), (written, "lock inputs row turn"),
    (writes, "lock table row turn"), (degrees, "lock inputs row"), (weighed, "lock"),
    (told_number, "lock"), (chains, "lock"), (most_all, "lock"), (all_row, "lock inputs"),
    (can_all, "lock"), (row_for, "nil table"), (row_for, "big table"),
    (formula_row, "nil inputs formula"), (formula_row, "big inputs formula"),
    (tidied, "lock inputs row"), (fewest, "lock table"), (write_lock, "lock"),
    (read_lock, "locktext"), (write_row, "lock inputs row"),
    (read_row, "lock inputs rowtext"), (Dial, "lock"), (Dial(PAIR).turn, "turn"),
    (Dial(PAIR).step, "step bits"), (Desk().take_lock, "locktext"), (Session, "locktext"),
    (Session("turn 1 0").say, "text"), (read_session, "sessiontext"),
    (first_unlike, "sessiontext"), (Desk().say, "any"),
)

RIGHT = {
    "lock": PAIR, "nil": PAIR, "big": FIVE, "turn": (1, 0), "turns": ((1, 0), (0, 1)),
    "inputs": 1, "prime": 3, "table": (0, 1), "row": ((0, (0, 1), (1, 0)),),
    "step": (0, (0, 1), (1, 0)), "bits": (1, 0), "text": "many", "formula": "not x0",
    "locktext": "turn 1 0", "rowtext": "x0 no 0 1 yes 1 0", "sessiontext": "| turn 1 0",
    "any": None,
}

WRONG.update({
    "nil": WRONG["lock"], "big": WRONG["lock"], "formula": NO_FORMULAS,
    "locktext": NO_LOCK_TEXTS, "rowtext": NO_ROW_TEXTS, "sessiontext": NO_LOCK_TEXTS,
})


def answered(function, arguments):
    """What is answered, or which error is raised with which fields."""
    try:
        return function(*arguments)
    except LockError as error:
        return type(error), vars(error)


class WholeTest(unittest.TestCase):
    def check_wrong(self, function, kinds, places):
        """With wrong values in told places the error of the leftmost is raised."""
        wrong = [WRONG[kinds[place]][0] for place in places]
        errors = WRONG[kinds[places[0]]][1]
        longest = max(len(values) for values in wrong)
        for at in range(longest):
            arguments = [RIGHT[kind] for kind in kinds]
            for place, values in zip(places, wrong):
                arguments[place] = values[at % len(values)]
            before = copy.deepcopy(arguments)
            with self.subTest(function=function.__name__, arguments=arguments):
                with self.assertRaises(errors):
                    function(*arguments)
                self.assertEqual(repr(arguments), repr(before))

    def test_the_leftmost_error_is_raised(self):
        for function, words in FUNCTIONS:
            kinds = words.split(" ")
            places = [place for place, kind in enumerate(kinds) if kind != "any"]
            for many in range(1, len(places) + 1):
                for chosen in itertools.combinations(places, many):
                    self.check_wrong(function, kinds, chosen)

    def test_right_arguments_are_answered(self):
        for function, words in FUNCTIONS:
            arguments = [RIGHT[kind] for kind in words.split(" ")]
            copied = copy.deepcopy(arguments)
            if words.startswith("nil"):
                self.assertEqual(answered(function, arguments)[0].__name__, "NoWay")
            else:
                answer = function(*arguments)
                self.assertNotIsInstance(answer, (list, dict))
                self.assertEqual(arguments, copied)

    def test_equal_arguments_have_equal_answers(self):
        for function, words in FUNCTIONS:
            if function.__name__ not in ("Dial", "Session", "turn", "step"):
                kinds = words.split(" ")
                for at in range(4):
                    arguments = [RIGHT[kind] for kind in kinds]
                    if at and kinds[0] in WRONG:
                        arguments[0] = WRONG[kinds[0]][0][at]
                    self.assertEqual(answered(function, arguments),
                                     answered(function, copy.deepcopy(arguments)))

    def test_any_last_value_may_be_shown(self):
        for value in ANY + ((), ((1, 0), ((1, 0),)), [[1, 0], [[1, 0]]]):
            self.assertIs(shows_ring(PAIR, value), False)

    def test_any_line_may_be_said_to_a_desk(self):
        desk = Desk()
        desk.take_lock("turn 1 0")
        for value in ANY:
            self.assertIn(desk.say(value), ("what", "no turn"))

    def test_fields_are_set_when_an_error_is_made(self):
        self.assertEqual(vars(BadLine(2, 3)), {"line": 2, "place": 3})
        for error in (BadLock, BadRow, BadSign):
            self.assertEqual(vars(error(4)), {"place": 4})
        self.assertEqual(vars(TooMany(6000)), {"most": 6000})
        for error in (BadTurn, BadTask, BadNumber, BadString):
            self.assertEqual(vars(error()), {})


if __name__ == "__main__":
    unittest.main()
