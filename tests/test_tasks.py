"""Points 1, 6 and 7: tasks, formulas, and polynomials."""

import copy
import itertools
import random
import unittest

from lockturns.errors import BadNumber, BadSign, BadString, BadTask
from lockturns.tasks import all_of, degree, polynomial, table_of
from samples import (
    NO_TABLES, NO_TEXTS, degree_by_definition, drawn_formula, factor_by_definition, gap)

PRIMES = (2, 3, 5, 7)

NO_NUMBERS = (None, True, False, "", "2", "x0", (), (2,), [], [2], {}, {2: 2}, -1, -2,
              10 ** 30, -10 ** 30, (True,), "True")

# inputs, text, and the place that BadSign tells.
BAD_FORMULAS = (
    # Too early an end.
    (1, "", 0), (1, " ", 1), (1, "    ", 4), (1, "not", 3), (1, "not  ", 5), (1, "not not ", 8),
    (1, "(", 1), (1, "(x0", 3), (1, "(x0 ", 4), (1, "(x0 and", 7), (1, "(x0 and ", 8),
    (2, "(x0 and x1", 10), (2, "(x0 and x1 ", 11), (2, "(x0 and (x1 or x0)", 18),
    # Words that cannot stand where they do.
    (1, ")", 0), (1, "and", 0), (1, "or", 0), (1, "xor", 0), (1, "  and", 2), (1, "()", 1),
    (1, "(not)", 4), (1, "not and x0", 4), (1, "(and x0)", 1), (1, "(x0 and and x0)", 8),
    (1, "(x0 not x0)", 4), (1, "(x0 x0)", 4), (1, "(x0 (x0 and x0))", 4), (1, "(x0)", 3),
    (1, "(x0 and)", 7), (1, "(x0 and )", 8), (1, "( x0 )", 5), (1, "not (x0)", 7),
    (1, "(x0 and x0 and x0)", 11), (1, "(x0 and x0 or x0)", 11), (1, "(x0 and x0 x0)", 11),
    (1, "(x0 nand x0)", 4), (1, "(x0 xor or x0)", 8), (1, "((x0 and x0))", 12),
    (1, "(x0 or not)", 10), (1, "(x0 or not and)", 11), (1, "(x0 and x0(", 10),
    # Needless words behind a formula.
    (1, "x0 x0", 3), (1, "x0 and", 3), (2, "x0 and x1", 3), (1, "x0)", 2), (1, "x0(", 2),
    (1, "not x0 not", 7), (1, "(x0 and x0))", 11), (1, "(x0 and x0) x0", 12),
    (1, "(x0 and x0)x0", 11), (1, "(x0 and x0)and", 11), (1, "x0 ;", 3), (1, " x0  z ", 5),
    # Words that run together.
    (1, "notx0", 0), (1, "not notx0", 4), (2, "(x0and x1)", 1), (2, "(x0 andx1)", 4),
    (2, "(x0andx1)", 1), (1, "x0x0", 0), (1, "x0not", 0), (1, "nota", 0), (1, "notnot x0", 0),
    (1, "not1", 0), (1, "0x0", 0), (2, "(x0 xorx1)", 4), (2, "(x0 or2 x1)", 4),
    # Inputs that are lacking or written otherwise.
    (1, "x1", 0), (2, "x2", 0), (5, "x5", 0), (6, "x6", 0), (6, "x7", 0), (6, "x9", 0),
    (2, "(x0 and x2)", 8), (1, "not x1", 4), (1, "(x1 and x0)", 1), (6, "(x5 or x6)", 7),
    (1, "x00", 0), (2, "x01", 0), (6, "x05", 0), (6, "x10", 0), (6, "(x0 or x00)", 7),
    (1, "x", 0), (1, "0", 0), (1, "1", 0), (1, "x 0", 0), (1, "y0", 0), (1, "xx0", 0),
    (1, "x-0", 0), (1, "x+0", 0), (1, "x0.0", 2), (1, "x1000000000000000000000000000000", 0),
    # Signs that are no word.
    (1, "X0", 0), (1, "NOT x0", 0), (1, "Not x0", 0), (2, "(x0 AND x1)", 4), (2, "(x0 & x1)", 4),
    (2, "(x0 anD x1)", 4), (2, "(x0, x1)", 3), (2, "(x0,and x1)", 3), (1, "[x0 and x0]", 0),
    (1, "{x0}", 0), (1, "x0\n", 2), (1, "\nx0", 0), (1, "\tx0", 0), (1, "x0\t", 2),
    (1, "not\tx0", 3), (1, "not\nx0", 3), (1, "x0\r\n", 2), (1, "x0\u00a0", 2), (1, "x0\0", 2),
    (1, "\u00e9", 0), (1, "x0\u00e9", 2), (1, "x\u0660", 0), (1, "x0\u00b2", 2), (1, "x\uff10", 0),
    (1, "\u00d70", 0), (1, "x0_", 2), (1, "_x0", 0), (1, "-x0", 0), (1, "~x0", 0), (1, "x0'", 2),
    (1, "not\u00e9 x0", 3), (1, "not \u2003x0", 4), (1, "\U0001d4b40", 0), (1, "x0\ud800", 2),
)


def told_inputs(inputs, place):
    return [int(place & 2 ** own > 0) for own in range(inputs)]


class FormulaTest(unittest.TestCase):
    def test_examples(self):
        self.assertEqual(table_of(2, "(x0 or not x1)"), (1, 1, 0, 1))
        with self.assertRaises(BadSign) as caught:
            table_of(2, "(x0 and x2)")
        self.assertEqual(caught.exception.place, 8)

    def test_each_word(self):
        for text, table in (
                ("x0", (0, 1, 0, 1)), ("x1", (0, 0, 1, 1)), ("not x0", (1, 0, 1, 0)),
                ("not x1", (1, 1, 0, 0)), ("(x0 and x1)", (0, 0, 0, 1)),
                ("(x0 or x1)", (0, 1, 1, 1)), ("(x0 xor x1)", (0, 1, 1, 0)),
                ("(not x0 and x1)", (0, 0, 1, 0)), ("not (x0 and x1)", (1, 1, 1, 0)),
                ("(x0 and not x1)", (0, 1, 0, 0)), ("not not x0", (0, 1, 0, 1)),
                ("(x0 xor x0)", (0, 0, 0, 0)), ("(x0 or not x0)", (1, 1, 1, 1))):
            self.assertEqual(table_of(2, text), table, text)

    def test_each_input_of_each_number(self):
        for inputs in range(1, 7):
            for own in range(inputs):
                table = table_of(inputs, f"x{own}")
                self.assertIsInstance(table, tuple)
                self.assertEqual(table, tuple(1 if place & 2 ** own else 0
                                              for place in range(2 ** inputs)))
                self.assertTrue(all(type(bit) is int for bit in table))

    def test_brackets_within_brackets(self):
        self.assertEqual(table_of(3, "((x0 and x1) or x2)"), (0, 0, 0, 1, 1, 1, 1, 1))
        self.assertEqual(table_of(3, "(x0 and (x1 or x2))"), (0, 0, 0, 1, 0, 1, 0, 1))
        self.assertEqual(table_of(3, "not ((x0 xor x1) xor not x2)"), (0, 1, 1, 0, 1, 0, 0, 1))
        self.assertEqual(table_of(2, "((x0 xor x1) xor (x0 and x1))"), (0, 1, 1, 1))

    def test_spaces(self):
        for text in ("(x0 and not x1)", "(  x0 and not x1  )", "   (x0   and   not   x1)   "):
            self.assertEqual(table_of(2, text), (0, 1, 0, 0), text)
        for text in ("not(x0 and x1)", "not  ( x0 and x1)", "not(x0 and(x1 or x1))",
                     "not((x0 or x0)and x1)", "not((x0 or x0)and(x1 or x1))"):
            self.assertEqual(table_of(2, text), (1, 1, 1, 0), text)

    def test_drawn_formulas(self):
        drawn = random.Random(6)
        for _ in range(600):
            inputs = drawn.randint(1, 6)
            text, worth = drawn_formula(drawn, inputs, drawn.randint(0, 7))
            text = gap(drawn, False) + text + gap(drawn, False)
            wanted = tuple(worth(told_inputs(inputs, place)) for place in range(2 ** inputs))
            self.assertEqual(table_of(inputs, text), wanted, text)

    def test_bad_signs(self):
        for inputs, text, place in BAD_FORMULAS:
            with self.subTest(inputs=inputs, text=text), self.assertRaises(BadSign) as caught:
                table_of(inputs, text)
            self.assertEqual(caught.exception.place, place, text)

    def test_every_cut_formula_ends_too_early(self):
        text = "(not (x0 and x1) xor (x2 or not not x0))"
        self.assertEqual(len(table_of(3, text)), 8)
        for end in range(len(text)):
            with self.assertRaises(BadSign) as caught:
                table_of(3, text[:end])
            cut = text[:end].split(" ")[-1].strip("()")
            whole = cut in ("", "not", "and", "or", "xor", "x0", "x1", "x2")
            self.assertEqual(caught.exception.place, end if whole else end - len(cut), end)

    def test_a_formula_within_twenty_others_may_stand(self):
        self.assertEqual(table_of(1, "not " * 20 + "x0"), (0, 1))
        self.assertEqual(table_of(1, "not " * 19 + "x0"), (1, 0))
        self.assertEqual(table_of(1, "(" * 20 + "x0" + " and x0)" * 20), (0, 1))
        self.assertEqual(table_of(1, "(x0 and " * 20 + "x0" + ")" * 20), (0, 1))
        self.assertEqual(table_of(1, "not(" * 10 + "x0" + " and x0)" * 10), (1, 1))

    def test_a_formula_within_more_cannot_stand(self):
        for many in (21, 22, 40, 5000):
            for text, place in (
                    ("not " * many + "x0", 84), ("(" * many + "x0" + " and x0)" * many, 21),
                    ("(x0 and " * many + "x0" + ")" * many, 161),
                    ("not " * many + "(x0 and x0)", 84), ("not " * many, 84),
                    ("(x0 or" + " not" * many + " x0)", 87), ("not " * many + "z", 84)):
                with self.subTest(text=text[:200]), self.assertRaises(BadSign) as caught:
                    table_of(1, text)
                self.assertEqual(caught.exception.place, place)
        # Only the one that stands too deep is the wrong one.
        with self.assertRaises(BadSign) as caught:
            table_of(1, "(x0 and " * 20 + "not x0" + ")" * 20)
        self.assertEqual(caught.exception.place, 164)

    def test_many_formulas_beside_each_other(self):
        text = "x0"
        for _ in range(12):
            text = f"({text} xor {text})"
        self.assertEqual(table_of(6, text), (0,) * 64)

    def test_numbers_of_inputs(self):
        for inputs in (0, 7, 8, 64) + NO_NUMBERS:
            for text in ("x0", "", "x9", None, 5):
                with self.subTest(inputs=inputs), self.assertRaises(BadNumber):
                    table_of(inputs, text)
            with self.subTest(inputs=inputs), self.assertRaises(BadNumber):
                all_of(inputs)

    def test_no_texts(self):
        for text in NO_TEXTS:
            with self.subTest(text=text), self.assertRaises(BadString):
                table_of(2, text)

    def test_all_of(self):
        self.assertEqual(all_of(1), (0, 1))
        self.assertEqual(all_of(2), (0, 0, 0, 1))
        self.assertEqual(all_of(6), (0,) * 63 + (1,))
        for inputs in range(1, 7):
            text = "x0"
            for own in range(1, inputs):
                text = f"({text} and x{own})"
            self.assertEqual(all_of(inputs), table_of(inputs, text))


class PolynomialTest(unittest.TestCase):
    def test_examples(self):
        self.assertEqual(polynomial(3, (1, 1, 0, 1)), (((), 1), ((1,), 2), ((0, 1), 1)))
        self.assertEqual(degree(2, (0, 1, 1, 0)), 1)

    def check(self, prime, table):
        pairs = polynomial(prime, table)
        self.assertIsInstance(pairs, tuple)
        parts = [part for part, _ in pairs]
        self.assertEqual(parts, sorted(parts, key=lambda part: (len(part), part)))
        self.assertEqual(len(set(parts)), len(parts))
        inputs = range(len(table).bit_length() - 1)
        for part, factor in pairs:
            self.assertIs(type(factor), int)
            self.assertTrue(1 <= factor < prime)
            self.assertEqual(part, tuple(sorted(set(part))))
            self.assertTrue(set(part) <= set(inputs))
        for place, bit in enumerate(table):
            worth = sum(factor for part, factor in pairs
                        if all(place & 2 ** own for own in part))
            self.assertEqual(worth % prime, bit)
        if any(table):
            self.assertEqual(degree(prime, table), len(parts[-1]))
        else:
            self.assertEqual(pairs, ())
            self.assertIsNone(degree(prime, table))
        return pairs

    def test_every_table_of_one_and_two_inputs(self):
        for prime in PRIMES:
            for many in (2, 4):
                for table in itertools.product((0, 1), repeat=many):
                    self.check(prime, table)

    def test_every_table_of_three_inputs(self):
        for table in itertools.product((0, 1), repeat=8):
            for prime in PRIMES:
                self.check(prime, table)

    def test_drawn_tables_of_more_inputs(self):
        drawn = random.Random(7)
        for inputs in (4, 5, 6):
            for prime in PRIMES:
                for _ in range(6):
                    table = tuple(drawn.choice((0, 1)) for _ in range(2 ** inputs))
                    pairs = dict(self.check(prime, table))
                    for many in range(inputs + 1):
                        for part in itertools.combinations(range(inputs), many):
                            self.assertEqual(pairs.get(part, 0),
                                             factor_by_definition(prime, table, part))
                    self.assertEqual(degree(prime, table), degree_by_definition(prime, table))

    def test_told_polynomials(self):
        self.assertEqual(polynomial(2, (0, 1, 1, 1)), (((0,), 1), ((1,), 1), ((0, 1), 1)))
        self.assertEqual(polynomial(5, (0, 1, 1, 0)), (((0,), 1), ((1,), 1), ((0, 1), 3)))
        self.assertEqual(polynomial(7, (1, 0)), (((), 1), ((0,), 6)))
        self.assertEqual(polynomial(7, (1,) * 64), (((), 1),))
        # Fewer inputs come first, and only then the lesser ones.
        self.assertEqual(polynomial(2, (0, 0, 0, 1, 1, 1, 1, 0)), (((2,), 1), ((0, 1), 1)))

    def test_degree_depends_on_the_prime(self):
        odd = table_of(3, "((x0 xor x1) xor x2)")
        self.assertEqual([degree(prime, odd) for prime in PRIMES], [1, 3, 3, 3])
        unlike = (0, 1, 1, 1, 1, 1, 1, 0)
        self.assertEqual([degree(prime, unlike) for prime in PRIMES], [2, 2, 2, 2])
        # Just one of three inputs: the factor of all three is 3.
        one = table_of(3, "(((x0 xor x1) xor x2) xor ((x0 and x1) and x2))")
        self.assertEqual([degree(prime, one) for prime in PRIMES], [3, 2, 3, 3])

    def test_degree(self):
        for prime in PRIMES:
            self.assertIsNone(degree(prime, (0, 0)))
            self.assertIsNone(degree(prime, (0,) * 64))
            self.assertEqual(degree(prime, (1,) * 64), 0)
            self.assertEqual(degree(prime, (1, 1)), 0)
            for inputs in range(1, 7):
                self.assertEqual(degree(prime, all_of(inputs)), inputs)
                self.assertEqual(degree(prime, table_of(inputs, f"not x{inputs - 1}")), 1)

    def test_other_numbers_than_primes(self):
        for prime in (0, 1, 4, 6, 8, 9, 11, 13, 14) + NO_NUMBERS:
            for function in (polynomial, degree):
                for table in ((0, 1), (0, 1, 0), None):
                    with self.subTest(prime=prime), self.assertRaises(BadNumber):
                        function(prime, table)

    def test_no_tables(self):
        for table in NO_TABLES:
            for function in (polynomial, degree):
                with self.subTest(table=table), self.assertRaises(BadTask):
                    function(2, table)

    def test_shortest_and_longest_tables(self):
        for inputs in range(1, 7):
            self.assertEqual(polynomial(3, (0,) * 2 ** inputs), ())


class ManyArgumentsTest(unittest.TestCase):
    def test_arguments_are_not_changed(self):
        for value in ([0, 1], {0: [1]}, ([0], {1: 0}), [[0, 1], [1]]):
            before = copy.deepcopy(value)
            for function in (polynomial, degree):
                with self.assertRaises(BadNumber):
                    function(value, (0, 1))
                with self.assertRaises(BadTask):
                    function(2, value)
            with self.assertRaises(BadNumber):
                table_of(value, "x0")
            with self.assertRaises(BadString):
                table_of(1, value)
            self.assertEqual(value, before)

    def test_equal_arguments_have_equal_answers(self):
        self.assertEqual(table_of(2, "(x0 and x1)"), table_of(2, "(x0" + " and x1)"))
        self.assertEqual(polynomial(2, (0, 1)), polynomial(2, tuple([0, 1])))


if __name__ == "__main__":
    unittest.main()
