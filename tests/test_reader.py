import random
import unittest

from tests.chance import Chance, Stuck
from tests.kin import KIN
from tests.samples import DUO, TOWER, call, let, letters, loop, name, nested, num, plus, use
from tonguetower.coming import next_words
from tonguetower.errors import NoText, TowerError
from tonguetower.kinds import look_term
from tonguetower.reader import read_term
from tonguetower.texts import term_text
from tonguetower.towers import ahead_of

X, Y = name("x"), name("y")
KNOWN = (("x", "n"), ("y", "b"))
OF_N = ("ADD", "LIT", "MARK", "SET", "TWO", "far.off", "mid.inc", "x")
OF_B = ("LESS", "far.all", "mid.is", "y")


def lit(number):
    return use("duo", "LIT", number)


def add(one, other):
    return use("duo", "ADD", one, other)


class ReadTest(unittest.TestCase):
    def told(self, text, kind="n", known=KNOWN, tongue="duo", tower=TOWER):
        try:
            return read_term(tower, tongue, known, kind, text)
        except NoText as error:
            return (error.at, error.wants)

    def check(self, text, due, **more):
        self.assertEqual(self.told(text, **more), due)

    def test_let_by(self):
        self.check("x", X)
        self.check("LIT 0", lit(0))
        self.check("ADD x , LIT 10", add(X, lit(10)))
        self.check("SET a = x ; ADD a , x", use("duo", "SET", "a", X, add(name("a"), X)))
        self.check("mid.inc mid.inc x", call("mid.inc", call("mid.inc", X)))
        self.check("mid.is x LESS x < x", call("mid.is", X, use("duo", "LESS", X, X)), kind="b")
        self.check("far.all", call("far.all"), kind="b")
        self.check("TWO a x b x x b", use("duo", "TWO", "a", X, "b", X, X, name("b")))
        self.check("MARK q = 5", use("duo", "MARK", "q", 5))

    def test_the_ground(self):
        ground = {"tongue": "ground", "kind": "num", "known": (("x", "num"),)}
        self.check("+ x NUM 999", plus(X, num(999)), **ground)
        self.check("LET a x a", let("a", X, name("a")), **ground)
        self.check("LOOP NUM 3 x x x", loop(num(3), "x", X, X), **ground)
        self.check("lib.two x lib.zero", call("lib.two", X, call("lib.zero")), **ground)
        self.check("NEED x x", use("ground", "NEED", X, X), **ground, tower=())

    def test_empty_words(self):
        self.check("", (0, OF_N))
        self.check(" ", (0, OF_N))
        self.check(" x", (0, OF_N))
        self.check("x ", (1, ()))
        self.check("ADD  x , x", (1, OF_N))
        self.check("ADD x  , x", (2, (",",)))
        self.check("LIT  1", (1, ("#",)))
        self.check("LIT ", (1, ("#",)))
        self.check("SET  a = x ; x", (1, ("@",)))

    def test_words_parted_by_blanks_alone(self):
        self.check("LIT\n1", (0, OF_N))
        self.check("x\n", (0, OF_N))
        self.check("LIT 1\n", (1, ("#",)))
        self.check("SET a\n= x ; x", (1, ("@",)))
        self.check("ADD x, x", (1, OF_N))

    def test_figures(self):
        for number in (0, 1, 9, 10, 99, 100, 999):
            self.check(f"LIT {number}", lit(number))
        for text in (
            "00",
            "01",
            "010",
            "0999",
            "1000",
            "1001",
            "99999",
            "-1",
            "+1",
            "1.0",
            "a",
            "x",
            "#",
            "LIT",
            "\u0663",
        ):
            self.check(f"LIT {text}", (1, ("#",)))

    def test_names(self):
        for x in ("a", "abcdef", "num", "lit", "zzzzzz", "x", "y"):
            self.check(f"SET {x} = LIT 1 ; {x}", use("duo", "SET", x, lit(1), name(x)))
        for text in ("abcdefg", "A", "aB", "a1", "@", "=", "a.b", "SET", "\u00e4", "1"):
            self.check(f"SET {text} = LIT 1 ; x", (1, ("@",)))

    def test_a_name_made_twice_in_one_use(self):
        self.check("TWO a x a x x y", (3, ("@",)))
        self.check("TWO a x b x x y", use("duo", "TWO", "a", X, "b", X, X, Y))
        self.check("TWO x x x x x y", (3, ("@",)))

    def test_a_name_in_sight_is_hidden(self):
        self.check("SET x = x ; x", use("duo", "SET", "x", X, X))
        self.check("SET y = x ; y", use("duo", "SET", "y", X, Y))
        self.check("SET y = x ; mid.is x y", (5, (*OF_N, "y")))
        self.check("LESS x < SET y = x ; y", use("duo", "LESS", X, use("duo", "SET", "y", X, Y)), kind="b")
        self.check("TWO x x y x x y", use("duo", "TWO", "x", X, "y", X, X, Y))
        self.check("TWO y y x y y x", (5, OF_N))

    def test_a_name_known_twice(self):
        twice = (("x", "n"), ("x", "b"))
        self.check("x", X, known=twice, kind="b")
        self.check("x", (0, OF_N[:7]), known=twice)
        self.check("x", X, known=(("x", "b"), ("x", "n")))

    def test_names_not_opened(self):
        self.check("SET a = a ; a", (3, OF_N))
        self.check("ADD SET a = x ; a , a", (8, OF_N))
        self.check("TWO a b b a x y", (2, ("ADD", "LIT", "MARK", "SET", "TWO", "a", "far.off", "mid.inc", "x")))

    def test_a_word_left_out(self):
        words = "SET a = ADD x , LIT 3 ; a".split()
        last = tuple(sorted([*OF_N, "a"]))
        due = [(0, OF_N), (1, ("@",)), (2, ("=",)), (4, (";",)), (4, OF_N), (5, (",",)), (6, OF_N), (7, ("#",))]
        for k, row in enumerate([*due, (8, (";",)), (9, last)]):
            self.check(" ".join(words[:k] + words[k + 1 :]), row)

    def test_a_word_put_in_or_exchanged(self):
        self.check("x SET a = x ; a", (1, ()))
        self.check("SET a = x ; a x", (6, ()))
        self.check("SET SET a = x ; a", (1, ("@",)))
        self.check("SET a = x x ; a", (4, (";",)))
        self.check("SET a = x , a", (4, (";",)))
        self.check("LESS a = x ; a", (0, OF_N))
        self.check("SET a = x ; y", (5, tuple(sorted([*OF_N, "a"]))))
        self.check("ADD x , LESS x < x", (3, OF_N))
        self.check("ADD x + x", (2, (",",)))

    def test_too_early_an_end(self):
        self.check("SET", (1, ("@",)))
        self.check("SET a", (2, ("=",)))
        self.check("ADD x ,", (3, OF_N))
        self.check("ADD ADD x , x", (5, (",",)))
        self.check("mid.is x", (2, OF_B), kind="b")

    def test_calls(self):
        self.check("mid.none x", (0, OF_N))
        self.check("lib.one x", (0, OF_N))
        self.check("mid.is x y", (0, OF_N))
        self.check("mid x", (0, OF_N))
        self.check("inc x", (0, OF_N))
        self.check("mid.inc x x", (2, ()))
        self.check("mid.inc y", (1, OF_N))
        self.check("mid.inc x", (0, ("ADD", "LIT", "MARK", "SET", "TWO", "x")), tower=ahead_of(TOWER, "mid.inc"))

    def test_other_tongues(self):
        self.check("ONE", (0, OF_N))
        self.check("NUM 1", (0, OF_N))
        self.check("ONE", use("trio", "ONE"), tongue="trio", kind="m", known=())
        self.check("IS ONE m", (2, ("ONE",)), tongue="trio", kind="t", known=())
        self.check("IS ONE ONE", use("trio", "IS", *[use("trio", "ONE")] * 2), tongue="trio", kind="t", known=())

    def test_kinds_without_terms(self):
        self.check("x", (0, ()), tongue="quad", kind="k", known=())
        self.check("", (0, ()), tongue="quad", kind="k", known=())
        self.check("x", X, tongue="quad", kind="k", known=(("x", "k"),))
        kin = {"tongue": "kin", "kind": "a", "tower": (KIN,)}
        self.check("N x", (0, ("M", "O", "U", "V", "Z")), known=(), **kin)
        self.check("W x IN x", (1, ("@",)), known=(("x", "b"),), **kin)
        self.check("W y IN x", use("kin", "W", "y", X), known=(("x", "b"),), **kin)
        self.check("W x IN", (1, ("@",)), known=(("x", "b"),), **kin)
        self.check("W y IN y", (3, ("x",)), known=(("x", "b"),), **kin)

    def test_by_name_again_and_unchanged(self):
        for _ in range(2):
            told = read_term(tower=TOWER, tongue="duo", known=KNOWN, kind="n", text="ADD x , x")
            self.assertEqual(told, add(X, X))
        with self.assertRaises(TowerError):
            read_term(TOWER, "duo", (), "n", "x")


class ChanceTest(unittest.TestCase):
    def test_each_term_has_one_text_and_is_read_from_it(self):
        told = 0
        for seed in range(20):
            chance = Chance(random.Random(seed))
            tower = chance.good_tower()
            for tongue in ["ground", *[item[1] for item in tower if item[0] == "tongue"]]:
                kinds = chance.kinds_of(tower, tongue)
                known = (("x", kinds[0]), ("y", kinds[-1]))
                try:
                    term = chance.term(tower, tongue, dict(known), kinds[0], 4)
                except Stuck:
                    continue
                text = term_text(tower, term)
                self.assertEqual(read_term(tower, tongue, known, kinds[0], text), term)
                told += 1
        self.assertGreater(told, 40)

    def test_one_word_changed(self):
        """A text is read just where it is a term let by; else it is told by which word it can't go on."""
        rng = random.Random(5)
        read = 0
        words_tried = [
            "a",
            "x",
            "y",
            "SET",
            "LIT",
            "ADD",
            ",",
            ";",
            "=",
            "<",
            "LESS",
            "7",
            "1000",
            "mid.inc",
            "far.all",
            "",
        ]
        chance = Chance(rng)
        for _ in range(400):
            term = chance.term(TOWER, "duo", dict(KNOWN), "n", 3)
            words = term_text(TOWER, term).split(" ")
            at = rng.randrange(len(words) + 1)
            words[at : at + rng.randrange(2)] = rng.sample(words_tried, rng.randrange(2))
            text = " ".join(words)
            try:
                told = read_term(TOWER, "duo", KNOWN, "n", text)
            except NoText as error:
                words = tuple(text.split(" "))
                self.assertEqual(next_words(TOWER, "duo", KNOWN, "n", words[: error.at]), error.wants)
                if error.at < len(words):
                    with self.assertRaises(NoText):
                        next_words(TOWER, "duo", KNOWN, "n", words[: error.at + 1])
                continue
            self.assertIs(look_term(TOWER, "duo", KNOWN, "n", told), True)
            self.assertEqual(term_text(TOWER, told), text)
            read += 1
        self.assertGreater(read, 50)


class DeepTest(unittest.TestCase):
    def test_hundreds_deep(self):
        term = nested(1500, X, lambda inner, at: add(inner, lit(at % 1000)))
        self.check(term)
        term = nested(1500, X, lambda inner, at: add(lit(at % 1000), inner))
        self.check(term)
        term = nested(600, X, lambda inner, at: use("duo", "SET", letters(at), X, inner))
        self.check(term)

    def check(self, term):
        text = term_text(TOWER, term)
        told = read_term(TOWER, "duo", KNOWN, "n", text)
        self.assertEqual(term_text(TOWER, told), text)
        self.assertIs(look_term(TOWER, "duo", KNOWN, "n", told), True)

    def test_a_wrong_word_deep_within(self):
        with self.assertRaises(NoText) as caught:
            read_term((DUO,), "duo", KNOWN, "n", "ADD " * 1000 + "y")
        self.assertEqual(caught.exception.at, 1000)


if __name__ == "__main__":
    unittest.main()
