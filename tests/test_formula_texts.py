"""formula_text and parse_formula ([G7])."""

import random

import plain_formulas
from helper import ErrorCase, odd_values
from piecetrees.errors import NotFormula
from piecetrees.formulas import formula_text, parse_formula
from plain_formulas import all_formulas, drawn_formula

SIGNS = " ()/-0123459\n+_,."


class FormulaTexts(ErrorCase):
    def check(self, size, text):
        formula, error = plain_formulas.parsed(size, text)
        if error is not None:
            self.check_error(NotFormula(error), parse_formula, size, text)
            return error
        self.assertEqual(repr(parse_formula(size, text)), repr(formula))
        self.assertEqual(formula_text(size, formula), text)
        return None

    def drawn(self, seed, many):
        rng = random.Random(seed)
        for size in range(1, 9):
            for _ in range(many):
                formula = drawn_formula(rng, list(range(size)))
                yield rng, size, formula, formula_text(size, formula)

    def test_there_and_back(self):
        for size in range(1, 4):
            for formula in all_formulas(size, (0, 10)):
                text = formula_text(size, formula)
                self.assertEqual(text, plain_formulas.formula_text(formula))
                self.assertEqual(repr(parse_formula(size, text)), repr(formula))
        for _, size, formula, text in self.drawn(150, 60):
            self.assertEqual(text, plain_formulas.formula_text(formula))
            self.assertIsNone(self.check(size, text))
        self.assertEqual((formula_text(0, ()), parse_formula(0, "()"), formula_text(1, 0), parse_formula(1, "0")), ("()", (), "0", 0))

    def test_one_sign_spoilt(self):
        told = {}
        for rng, size, _, text in self.drawn(151, 15):
            for at in range(len(text) + 1):
                sign = rng.choice(SIGNS)
                for bad in (text[:at] + text[at + 1:], text[:at] + sign + text[at:], text[:at] + sign + text[at + 1:]):
                    told[self.check(size, bad)] = True
        self.assertEqual(set(told), {None, "form", "things"})

    def test_words_put_elsewhere(self):
        for rng, size, _, text in self.drawn(152, 25):
            words = text.split(" ")
            for _ in range(4):
                self.check(size, " ".join(rng.sample(words, len(words))))
                at = rng.randrange(len(words))
                self.check(size, " ".join(words[:at] + words[at + 1:]))
                self.check(size, " ".join(words[:at] + words[at:at + 1] + words[at:]))

    def test_of_another_size(self):
        for _, _, _, text in self.drawn(153, 6):
            for size in range(9):
                self.check(size, text)

    def test_no_text_so_built(self):
        good = "((0 0/0 1) 12/99 2)"
        self.assertIsNone(self.check(3, good))
        for bad in (
            "", " ", "(", ")", "()", "(())", "( )", "\n", good[1:], good[:-1], good + ")", "(" + good, "(" + good + ")", good + " ", " " + good,
            good + "\n", good + good, good + " 0/0 " + good, good.replace(" ", "  ", 1), good.replace("12/99", "12 /99"), good.replace("12", "012"),
            good.replace("99", "100"), good.replace("12/99", "12/"), good.replace("12/99", "/99"), good.replace("12/99", "12"),
            good.replace("12/99", "12/99/1"), good.replace("12/99", "12//99"), good.replace("12/99", "-1/99"), good.replace("12/99", "+1/99"),
            good.replace("/", "\\"), good.replace("2)", "02)"), good.replace("2)", "3)"), good.replace("2)", "-)"), good.replace("2)", "())"),
            good.replace("2)", "2 )"), good.replace("2)", "(2))"), good.replace(" 2)", ")"), good.replace("(0 ", "( 0 "), good.replace("1)", "1))"),
            "(0 0/0 1 0/1 2)", "(0 0/0 1 1/0 2)", "(0 0/0 1 0/0)", "(0 0/0 0/0 1 2)", "(0 1 2)", "(0)", "((0))", "0 0/0 1", "(0 0/0 1", "0 0/0 1)",
            "(0/0 0/0 1 0/0 2)", "(0)(1)(2)", "(0 0/0 1)(0 0/0 2)", "[0 0/0 1]", "(0 0/0 1) 2", "2 (0 0/0 1)", "(0 0/\u0661 1)", "0" * 3000,
            "(0 " + "9" * 2000 + "/0 1)", "(0 0/0 " + "1" * 2000 + ")", "(0 0/0 1 0/0 2) 0/0", "(0 0/0 1) 0/0 ", "0/0", "(0/0)",
        ):
            self.assertEqual(self.check(3, bad), "form", bad)
        for bad in ("(0 0/0 0)", "(0 0/0 1)", "(0 0/0 1 0/0 2 0/0 2)", "(0 0/0 (1 0/0 (2 1/2 0)))", "0", "1"):
            self.assertEqual(self.check(3, bad), "things", bad)
        for bad in ("", " ", "0", "()()", "(0)", "() ", " ()", "()\n", "(0 0/0 1)"):
            self.assertEqual(self.check(0, bad), "form", bad)
        self.assertEqual(self.check(1, "()"), "form")

    def test_very_deep_texts(self):
        for many in (50, 300, 3000):
            left, right = "(" * many, ")" * many
            beside = "(0 0/0 " * many + "1" + right
            self.check_error(NotFormula("things"), parse_formula, 2, beside)
            self.check_error(NotFormula("things"), parse_formula, 2, left + "1" + " 0/0 0)" * many)
            self.check_error(NotFormula("form"), parse_formula, 1, beside)
            for text in (left, right, left + "0" + right, left + right, beside[:-1], beside + ")", beside.replace("1", ""), "(0 0/0 " * many):
                self.check_error(NotFormula("form"), parse_formula, 2, text)
        deep = "(0 0/1 (1 0/0 (2 0/1 (3 0/0 (4 0/1 (5 0/0 (6 0/1 7)))))))"
        self.assertIsNone(self.check(8, deep))

    def test_no_strings(self):
        for value in [one for one in odd_values() if not isinstance(one, str)] + [b"0", 0.5, ["0"], ("(0 0/0 1)",)]:
            for size in range(9):
                self.check_error(NotFormula("form"), parse_formula, size, value)
        for value in [one for one in odd_values() if isinstance(one, str)]:
            for size in range(9):
                self.check(size, value)

    def test_by_name(self):
        self.assertEqual(formula_text(formula=(0, 1, (1, 0)), size=2), "(1 0/1 0)")
        self.assertEqual(parse_formula(value="(1 0/1 0)", size=2), (0, 1, (1, 0)))
