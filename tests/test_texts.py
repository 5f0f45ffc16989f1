import random
import unittest

from tests.chance import Chance, Stuck
from tests.samples import TOWER, call, let, loop, name, nested, num, plus, use
from tonguetower.texts import term_text

X, Y, Z = name("x"), name("y"), name("z")


def plain_text(tower, term):
    """A text, done by calls."""
    if term[0] == "name":
        return term[1]
    if term[0] == "call":
        return " ".join([term[1], *[plain_text(tower, inner) for inner in term[2]]])
    form = [form for form in Chance(None).tongue_of(tower, term[1])[6] if form[0] == term[2]][0]
    left = list(term[3])
    words = [term[2]]
    for item in form[1]:
        thing = item[1] if item[0] == "sign" else left.pop(0)
        words.append(plain_text(tower, thing) if isinstance(thing, tuple) else str(thing))
    return " ".join(words)


class TextTest(unittest.TestCase):
    def check(self, term, due):
        self.assertEqual(term_text(TOWER, term), due)

    def test_names_and_calls(self):
        self.check(X, "x")
        self.check(name("abcdef"), "abcdef")
        self.check(call("lib.zero"), "lib.zero")
        self.check(call("lib.two", X, call("lib.one", Y)), "lib.two x lib.one y")

    def test_the_ground(self):
        self.check(num(0), "NUM 0")
        self.check(num(10), "NUM 10")
        self.check(num(999), "NUM 999")
        self.check(plus(X, num(1)), "+ x NUM 1")
        self.check(let("a", X, name("a")), "LET a x a")
        self.check(loop(num(3), "a", X, plus(name("a"), Y)), "LOOP NUM 3 a x + a y")
        self.check(use("ground", "IF", X, Y, Z), "IF x y z")
        self.check(use("ground", "NEED", X, use("ground", "<", Y, Z)), "NEED x < y z")

    def test_signs_stand_as_they_are(self):
        self.check(use("duo", "SET", "a", X, name("a")), "SET a = x ; a")
        self.check(use("duo", "ADD", X, use("duo", "LIT", 7)), "ADD x , LIT 7")
        self.check(use("duo", "LESS", X, Y), "LESS x < y")
        self.check(use("duo", "MARK", "q", 0), "MARK q = 0")
        self.check(use("duo", "TWO", "a", X, "b", Y, Z, name("b")), "TWO a x b y z b")
        self.check(use("trio", "IS", use("trio", "ONE"), X), "IS ONE x")
        form = ("+", (("sign", "("), ("sign", "("), ("lit",), ("sign", ")")), "n", num(1))
        tower = (("tongue", "odd", "ground", (("n", "num"),), (), (), (form,)),)
        self.assertEqual(term_text(tower, use("odd", "+", 3)), "+ ( ( 3 )")

    def test_one_head_in_two_tongues(self):
        low = ("tongue", "low", "ground", (("n", "num"),), (), (), (("NUM", (("lit",), ("sign", "!")), "n", num(1)),))
        self.assertEqual(term_text((low,), use("low", "NUM", 3)), "NUM 3 !")
        self.assertEqual(term_text((low,), num(3)), "NUM 3")

    def test_any_terms(self):
        told = 0
        for seed in range(15):
            chance = Chance(random.Random(seed))
            tower = chance.good_tower()
            for tongue in ["ground", *[item[1] for item in tower if item[0] == "tongue"]]:
                kinds = chance.kinds_of(tower, tongue)
                scope = {"x": kinds[0], "y": kinds[-1]}
                try:
                    term = chance.term(tower, tongue, scope, kinds[0], 5)
                except Stuck:
                    continue
                self.assertEqual(term_text(tower, term), plain_text(tower, term))
                told += 1
        self.assertGreater(told, 30)

    def test_hundreds_deep(self):
        term = nested(1500, X, lambda inner, at: use("duo", "SET", "a", inner, Y))
        self.check(term, "SET a = " * 1500 + "x" + " ; y" * 1500)
        term = nested(1500, X, lambda inner, at: plus(Y, inner))
        self.check(term, "+ y " * 1500 + "x")

    def test_by_name_again_and_unchanged(self):
        term = plus(X, num(2))
        for _ in range(2):
            self.assertEqual(term_text(tower=TOWER, term=term), "+ x NUM 2")
        self.assertEqual(term, plus(X, num(2)))


if __name__ == "__main__":
    unittest.main()
