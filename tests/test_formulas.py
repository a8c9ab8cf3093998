"""Points 1 and 13: rows that write formulas by their parts."""

import itertools
import random
import unittest

from lockturns.errors import BadLock, BadNumber, BadSign, BadString, NoWay, TooMany
from lockturns.formulas import formula_row
from lockturns.rows import worths, writes
from lockturns.tasks import table_of
from samples import (
    FIVE, LOCKS, NO_NUMBERS, NO_TEXTS, SQUARE, STRANGE, TOO_LONG, TRIANGLE, drawn_formula,
    product_for)

SOLVED = {name: row[0] for name, row in LOCKS.items() if row[3]}
UNSOLVED = {name: row[0] for name, row in LOCKS.items() if not row[3]}
JOINERS = ("and", "or", "xor")


def shapes(leaves):
    """All formulas of inputs in their order, from a list of as many texts."""
    if len(leaves) == 1:
        yield leaves[0]
    for cut in range(1, len(leaves)):
        for one in shapes(leaves[:cut]):
            for other in shapes(leaves[cut:]):
                for joiner in JOINERS:
                    yield f"({one} {joiner} {other})"


def balanced(joiner, deep):
    text = f"(x0 {joiner} x1)"
    for _ in range(deep - 1):
        text = f"({text} {joiner} {text})"
    return text


class FormulasTest(unittest.TestCase):
    def test_example(self):
        lock = ((1, 2, 3, 4, 0), (1, 2, 0, 3, 4))
        row, turn = formula_row(lock, 2, "(x0 and not x1)")
        self.assertIs(writes(lock, (0, 1, 0, 0), row, turn), True)

    def check(self, lock, inputs, text):
        found = formula_row(lock, inputs, text)
        self.assertIsInstance(found, tuple)
        row, turn = found
        self.assertIsInstance(row, tuple)
        self.assertLessEqual(len(row), 6000)
        still = tuple(range(len(lock[0])))
        table = table_of(inputs, text)
        reached = worths(lock, inputs, row)
        self.assertNotEqual(turn, still)
        self.assertEqual(reached, tuple(turn if bit else still for bit in table), text)
        self.assertIs(writes(lock, table, row, turn), True)
        return row

    def test_each_word(self):
        for lock in UNSOLVED.values():
            for text in ("x0", "x1", "not x0", "not not x1", "(x0 and x1)", "(x0 or x1)",
                         "(x0 xor x1)", "not (x0 and x1)", "not (x0 or x1)", "not (x0 xor x1)",
                         "(not x0 and x1)", "(x0 or not x1)", "(not x0 xor not x1)"):
                self.check(lock, 2, text)

    def test_by_the_words_of_the_document(self):
        for text in ("(x0 xor (x1 or not x2))", "((x0 and x1) xor x2)", "not (x2 or x0)"):
            row, turn = formula_row(FIVE, 3, text)
            for place, bit in enumerate(table_of(3, text)):
                wanted = turn if bit else (0, 1, 2, 3, 4)
                self.assertEqual(product_for(row, 5, place), wanted)

    def test_every_formula_of_at_most_three_joining_words(self):
        for lock in UNSOLVED.values():
            for many in range(1, 5):
                for text in shapes([f"x{own}" for own in range(many)]):
                    self.check(lock, many, text)

    def test_inputs_that_stand_more_than_once(self):
        for leaves in itertools.product(("x0", "x1"), repeat=3):
            for text in shapes(leaves):
                self.check(FIVE, 2, text)
                self.check(UNSOLVED["seven lines"], 2, f"({text} xor x1)")

    def test_always_and_never(self):
        for lock in UNSOLVED.values():
            for text in ("(x0 xor x0)", "(x0 or not x0)", "(x0 and not x0)", "not (x0 xor x0)",
                         "((x0 or x1) xor (x1 or x0))", "not ((x0 and not x0) or (x1 xor x1))"):
                self.check(lock, 2, text)
        self.assertEqual(table_of(1, "(x0 xor x0)"), (0, 0))

    def test_deep_ones(self):
        for lock in UNSOLVED.values():
            for many in (19, 20):
                self.check(lock, 1, "not " * many + "x0")
            for joiner in JOINERS:
                self.check(lock, 4, f"(x0 {joiner} (x1 {joiner} (x2 {joiner} (x3 {joiner} x0))))")
                self.check(lock, 4, f"((((x0 {joiner} x1) {joiner} x2) {joiner} x3) {joiner} x1)")
                self.check(lock, 2, balanced(joiner, 3))
            self.check(lock, 6, "(not (x0 and not (x1 or not (x2 and x3))) xor not (x4 or x5))")
            text = "x0"
            for own in (1, 2, 3, 4, 5):
                text = f"not (not {text} and not not x{own})"
            self.check(lock, 6, text)

    def test_not_in_many_places_makes_no_row_longer(self):
        plain = formula_row(FIVE, 3, "((x0 and x1) xor (x2 or x0))")[0]
        full = formula_row(FIVE, 3, "not (not (not x0 and not x1) xor not (not x2 or not x0))")[0]
        self.assertEqual(len(plain), len(full))

    def test_drawn_formulas(self):
        drawn = random.Random(23)
        written = 0
        for _ in range(250):
            lock = drawn.choice(list(UNSOLVED.values()))
            inputs = drawn.randint(1, 6)
            text, _ = drawn_formula(drawn, inputs, drawn.randint(0, 5))
            try:
                self.check(lock, inputs, text)
                written += 1
            except TooMany as error:
                self.assertEqual(error.most, 6000)
        self.assertGreater(written, 200)

    def test_equal_arguments_have_equal_answers(self):
        self.assertEqual(formula_row(FIVE, 2, "(x0 xor x1)"),
                         formula_row(tuple([tuple(list(one)) for one in FIVE]), 2,
                                     "(x0 " + "xor x1)"))
        # Spaces between words say nothing.
        self.assertEqual(formula_row(FIVE, 2, "(x0 xor x1)"),
                         formula_row(FIVE, 2, " ( x0  xor   x1 ) "))


class TooManyTest(unittest.TestCase):
    def check_too_many(self, text):
        for name in ("even five", "five", "five beside two", "seven lines"):
            with self.assertRaises(TooMany) as caught:
                formula_row(UNSOLVED[name], 6, text)
            self.assertEqual(caught.exception.most, 6000)

    def test_long_ones(self):
        for joiner in JOINERS:
            self.check_too_many(f"(x0 {joiner} " * 20 + "x1" + ")" * 20)
            self.check_too_many("(" * 20 + "x0" + f" {joiner} x1)" * 20)
            self.check_too_many(balanced(joiner, 8))
            self.check_too_many(balanced(joiner, 13))

    def test_a_row_of_6000_steps_and_a_longer_one(self):
        # Of parts with n and m steps, and makes twice n + m of them, xor three times.
        sixteen = "((x0 and x1) and (x2 and x3))"
        forty_six = "((((x0 and x1) and x2) and x3) and x4)"
        mixed = f"({sixteen} and {forty_six})"
        third = f"({mixed} xor x0)"
        quarter = f"({third} and {third})"
        longest = f"({quarter} and {quarter})"
        row, turn = formula_row(FIVE, 6, longest)
        self.assertEqual(len(row), 6000)
        self.assertIs(writes(FIVE, table_of(6, longest), row, turn), True)
        odd = "((x0 xor x1) xor x2)"
        half = f"({mixed} and ({odd} xor {odd}))"
        self.assertEqual(len(formula_row(FIVE, 6, f"({half} xor {half})")[0]), 3000)
        self.check_too_many(f"(({half} xor {half}) and x0)")

    def test_too_many_is_told_of_rows_alone(self):
        # What a formula is worth does not count, only how it is written.
        self.check_too_many("(x0 xor " * 19 + "(x0 xor x0)" + ")" * 19)


class WrongValuesTest(unittest.TestCase):
    def test_no_way_for_solvable_locks(self):
        for name, lock in SOLVED.items():
            for text in ("x0", "(x0 and x1)", "(x0 xor x0)", "(x0 or not x0)"):
                with self.subTest(name=name, text=text), self.assertRaises(NoWay):
                    formula_row(lock, 2, text)

    def test_no_way_comes_ahead_of_too_many(self):
        for lock in SOLVED.values():
            with self.assertRaises(NoWay):
                formula_row(lock, 2, "(x0 and " * 20 + "x1" + ")" * 20)

    def test_the_arguments_come_ahead_of_no_way(self):
        for lock in (FIVE, TRIANGLE, SQUARE, ((0, 1),), LOCKS["two and three round"][0]):
            for inputs in NO_NUMBERS:
                for text in ("x0", "", None, "x9"):
                    with self.subTest(inputs=inputs), self.assertRaises(BadNumber):
                        formula_row(lock, inputs, text)
            for text in NO_TEXTS:
                with self.subTest(text=text), self.assertRaises(BadString):
                    formula_row(lock, 2, text)
            for text, place in (("", 0), ("x2", 0), ("(x0 and x2)", 8), ("x0 x1", 3),
                                ("(x0 and", 7), ("not " * 21 + "x0", 84), ("X0", 0),
                                ("(x0 and " * 21 + "x1" + ")" * 21, 161)):
                with self.subTest(text=text), self.assertRaises(BadSign) as caught:
                    formula_row(lock, 2, text)
                self.assertEqual(caught.exception.place, place)

    def test_locks_come_first(self):
        for rest in ((2, "x0"), (0, None), (2, ""), (2, "(x0 and " * 20 + "x1" + ")" * 20)):
            for lock in STRANGE:
                with self.subTest(lock=lock), self.assertRaises(BadLock):
                    formula_row(lock, *rest)
            for lock in TOO_LONG:
                with self.assertRaises(TooMany) as caught:
                    formula_row(lock, *rest)
                self.assertEqual(caught.exception.most, 240)


if __name__ == "__main__":
    unittest.main()
