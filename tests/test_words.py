import itertools
import unittest

from tonguetower.words import is_call, is_name, is_sign, number_of

SMALL = "abcdefghijklmnopqrstuvwxyz"
MARKS = "+-*/=<>()[],;?"
SEVERAL = ["\u0430", "\u0416", "\uff41", "\uff21", "\u0663", "\u00b2", "\U0001d41a"]
ALL_SIGNS = [chr(at) for at in range(0, 0x250)] + SEVERAL


class WordsTest(unittest.TestCase):
    def test_names(self):
        for text in ("a", "z", "num", "abcdef", "zzzzzz", "ground"):
            self.assertIs(is_name(text), True, text)

    def test_no_names(self):
        texts = ["", "abcdefg", "A", "Ab", "aB", "abcdeF", "a1", "1", "a b", " a", "a ", "a\n", "\na"]
        for text in texts + ["a_b", "_", "a.b", "a-b", "\u00e4", "\u00df", "\u0430", "\uff41", "a" * 5000]:
            self.assertIs(is_name(text), False, text)

    def test_signs(self):
        for text in ["A", "Z", "IF", "NEED", "ABCDEF", "ZZZZZZ"] + list(MARKS):
            self.assertIs(is_sign(text), True, text)

    def test_no_signs(self):
        texts = ["", "ABCDEFG", "a", "Ab", "aB", "ABCDEf", "A1", "A ", " A", "A\n", "A_", "P.F"]
        for text in texts + ["\u00c4", "\u0416", "\uff21", "A" * 5000]:
            self.assertIs(is_sign(text), False, text)
        for one, other in itertools.product(MARKS, MARKS):
            self.assertIs(is_sign(one + other), False)
        for mark in MARKS:
            self.assertIs(is_sign(mark + "A"), False)
            self.assertIs(is_sign("A" + mark), False)
            self.assertIs(is_sign(mark + " "), False)
            self.assertIs(is_sign(mark + "\n"), False)

    def test_each_single_sign(self):
        for text in ALL_SIGNS:
            self.assertIs(is_name(text), text in SMALL, ascii(text))
            self.assertIs(is_sign(text), text in SMALL.upper() or text in MARKS, ascii(text))
            due = "0123456789".index(text) if text in "0123456789" else None
            self.assertEqual(number_of(text), due, ascii(text))
            self.assertIs(is_call(text), False)

    def test_each_length(self):
        for many in range(12):
            self.assertIs(is_name("q" * many), 1 <= many <= 6)
            self.assertIs(is_sign("Q" * many), 1 <= many <= 6)
            self.assertIs(is_call("q" * many + ".f"), 1 <= many <= 6)
            self.assertIs(is_call("f." + "q" * many), 1 <= many <= 6)

    def test_calls(self):
        for text in ("p.f", "a.a", "abcdef.ghijkl", "ground.num"):
            self.assertIs(is_call(text), True, text)

    def test_no_calls(self):
        texts = ["", ".", "p", "pf", "p.", ".f", "p..f", "p.f.g", "p.f.", ".p.f", "P.f", "p.F", "P.F"]
        texts += ["p .f", "p. f", " p.f", "p.f ", "p.f\n", "p,f", "abcdefg.f", "f.abcdefg"]
        for text in texts + ["p.1", "1.f", "p.f1", "p.+", "\u00e4.f", "p.\u00e4"]:
            self.assertIs(is_call(text), False, text)

    def test_numbers(self):
        for number in range(1000):
            told = number_of(str(number))
            self.assertEqual(told, number)
            self.assertIs(type(told), int)

    def test_no_numbers(self):
        texts = ["", "00", "01", "000", "007", "010", "0999", "1000", "1001", "9999", "10000", "9" * 5000, "0" * 5000]
        texts += ["-1", "+1", "-0", " 1", "1 ", "1\n", "1_0", "1.0", "1e1", "0x1", "a", "A", "1a", "a1", "True"]
        for text in texts + ["\u0661", "\u00b2", "\uff11", "1\u0661"]:
            self.assertIs(number_of(text), None, text)

    def test_by_name_and_again(self):
        for _ in range(2):
            self.assertIs(is_name(text="a"), True)
            self.assertIs(is_sign(text="A"), True)
            self.assertIs(is_call(text="a.b"), True)
            self.assertEqual(number_of(text="12"), 12)


if __name__ == "__main__":
    unittest.main()
