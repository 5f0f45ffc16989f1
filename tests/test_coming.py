import random
import unittest

from tests.chance import Chance
from tests.kin import KIN
from tests.samples import DUO, FAR, LIB, MID, QUAD, TOWER, TRIO, call, letters, name, nested, num, use
from tonguetower.coming import is_filled, next_words, whole_text
from tonguetower.errors import NoText, TowerError
from tonguetower.kinds import look_term
from tonguetower.reader import read_term
from tonguetower.texts import term_text
from tonguetower.towers import ahead_of, look_tower

KNOWN = (("x", "n"), ("y", "b"))
OF_N = ("ADD", "LIT", "MARK", "SET", "TWO", "far.off", "mid.inc", "x")
OF_B = ("LESS", "far.all", "mid.is", "y")
KIN_TOWER = (KIN,)


class NextTest(unittest.TestCase):
    def check(self, text, due, kind="n", known=KNOWN, tongue="duo", tower=TOWER):
        told = next_words(tower, tongue, known, kind, tuple(text.split()))
        self.assertEqual(told, due)
        self.assertIsInstance(told, tuple)

    def refused(self, words, at, wants, kind="n", known=KNOWN, tongue="duo", tower=TOWER):
        for tell in (next_words, whole_text):
            with self.assertRaises(NoText, msg=words) as caught:
                tell(tower, tongue, known, kind, words)
            self.assertEqual((caught.exception.at, caught.exception.wants), (at, wants))
            self.assertIsInstance(caught.exception, TowerError)

    def test_the_empty_beginning(self):
        self.check("", OF_N)
        self.check("", OF_B, kind="b")
        self.check("", ("ADD", "LIT", "MARK", "SET", "TWO", "far.off", "mid.inc"), known=())
        ground = ("*", "+", "-", "/", "<", "=", "IF", "LET", "LOOP", "NEED", "NUM", "lib.one", "lib.two", "lib.zero")
        self.check("", ground, tongue="ground", kind="num", known=())
        self.check("", ground[:11], tongue="ground", kind="num", known=(), tower=())

    def test_each_sort_of_item(self):
        self.check("LIT", ("#",))
        self.check("SET", ("@",))
        self.check("SET a", ("=",))
        self.check("SET a =", OF_N)
        self.check("SET a = x", (";",))
        self.check("SET a = x ;", (*OF_N[:5], "a", *OF_N[5:]))
        self.check("MARK a =", ("#",))
        self.check("ADD LIT 1", (",",))
        self.check("mid.inc", OF_N)
        self.check("mid.is x", OF_B, kind="b")

    def test_whole(self):
        for text in ("x", "LIT 3", "SET a = x ; a", "mid.inc x", "MARK a = 0", "ADD ADD x , x , x"):
            self.check(text, ())
        self.check("lib.zero", (), tongue="ground", kind="num")

    def test_names_in_sight(self):
        self.check("SET x = x ; SET a = x ;", (*OF_N[:5], "a", "far.off", "mid.inc", "x"))
        self.check("TWO a", (*OF_N[:5], "a", "far.off", "mid.inc", "x"))
        self.check("TWO a a b", (*OF_N[:5], "a", "far.off", "mid.inc", "x"))
        self.check("TWO a a b a", OF_N)
        self.check("TWO a a b a x", ("LESS", "b", "far.all", "mid.is", "y"))
        self.check("TWO y y x y LIT 1", ("LESS", "far.all", "mid.is", "x", "y"))
        self.check("TWO y", (*OF_N, "y"))
        self.check("", (*OF_N[:7],), known=(("x", "n"), ("x", "b")))
        self.check("", ("LESS", "far.all", "mid.is", "x"), known=(("x", "n"), ("x", "b")), kind="b")

    def test_names_sort_as_python_sorts(self):
        known = (("zz", "n"), ("b", "n"), ("aa", "n"), ("faz", "n"))
        self.check("", (*OF_N[:5], "aa", "b", "far.off", "faz", "mid.inc", "zz"), known=known)

    def test_no_text_begins_so(self):
        self.refused(("y",), 0, OF_N)
        self.refused(("LESS",), 0, OF_N)
        self.refused(("",), 0, OF_N)
        self.refused(("x", "x"), 1, ())
        self.refused(("x", ""), 1, ())
        self.refused(("LIT", "x"), 1, ("#",))
        self.refused(("LIT", "#"), 1, ("#",))
        self.refused(("LIT", "1", "x"), 2, ())
        self.refused(("SET", "@"), 1, ("@",))
        self.refused(("SET", "a", ";"), 2, ("=",))
        self.refused(("SET a",), 0, OF_N)
        self.refused(("ADD", "x", ",", "y"), 3, OF_N)
        self.refused(("lib.zero",), 0, OF_N)
        self.refused(("mid.is",), 0, OF_N)

    def test_a_kind_of_names_alone(self):
        a = {"tongue": "kin", "tower": KIN_TOWER, "kind": "a"}
        self.check("", ("M", "O", "U", "V", "Z"), known=(), **a)
        self.check("", ("K", "M", "O", "T", "U", "V", "W", "Z", "x"), known=(("x", "a"), ("y", "b")), **a)
        self.check("", ("M", "N", "O", "U", "V", "Z"), known=(("x", "c"),), **a)
        self.check("", (), known=(), **{**a, "kind": "b"})
        self.check("", ("y",), known=(("y", "b"),), **{**a, "kind": "b"})
        self.check("", (), known=(("y", "b"),), **{**a, "kind": "d"})
        self.check("", ("D", "x"), known=(("x", "d"),), **{**a, "kind": "d"})
        self.check("D x )", (), known=(("x", "d"),), **{**a, "kind": "d"})

    def test_a_name_by_which_no_term_is_left(self):
        a = {"tongue": "kin", "tower": KIN_TOWER, "kind": "a"}
        one = (("x", "b"),)
        self.check("W", ("@",), known=one, **a)
        self.check("W a IN", ("x",), known=one, **a)
        self.refused(("W", "x"), 1, ("@",), known=one, **a)
        self.refused(("W", "x", "IN"), 1, ("@",), known=one, **a)
        self.check("W x IN", ("y",), known=(("x", "b"), ("y", "b")), **a)
        self.refused(("W", "x"), 1, ("@",), known=(("y", "b"), ("y", "a"), ("x", "b")), **a)

    def test_a_later_name_makes_up_for_it(self):
        a = {"tongue": "kin", "tower": KIN_TOWER, "kind": "a"}
        one = (("x", "b"),)
        self.check("V x", ("@",), known=one, **a)
        self.check("V x y", ("y",), known=one, **a)
        self.check("V y z", ("x", "z"), known=one, **a)
        self.check("V y x", ("x",), known=one, **a)
        self.check("U x a", ("x",), known=one, **a)
        self.refused(("U", "y", "y"), 2, ("@",), known=one, **a)
        self.check("U a x", ("a",), known=one, **a)
        self.check("T x", ("M", "O", "U", "V", "Z", "x"), known=one, **a)
        self.check("T x x", ("x",), known=one, **a)

    def test_a_name_opened_by_another_term_only(self):
        a = {"tongue": "kin", "tower": KIN_TOWER, "kind": "a"}
        # The third item of K is opened to the second name, of kind a, alone: the b must come from around.
        self.check("", ("K", "M", "O", "T", "U", "V", "W", "Z"), known=(("x", "b"),), **a)
        self.check("K y", ("@",), known=(("x", "b"),), **a)
        self.refused(("K", "y", "x"), 2, ("@",), known=(("x", "b"),), **a)
        self.check("K x y", ("x",), known=(("x", "b"),), **a)
        self.check("K y z x", ("x", "y"), known=(("x", "b"),), **a)

    def test_what_is_handed_in_stays(self):
        words = ("SET", "a")
        known = [("x", "n")]
        for _ in range(2):
            self.assertEqual(next_words(TOWER, "duo", tuple(known), "n", words), ("=",))
        self.assertEqual(words, ("SET", "a"))

    def test_by_name(self):
        told = next_words(tower=TOWER, tongue="duo", known=KNOWN, kind="n", words=("SET",))
        self.assertEqual(told, ("@",))
        told = whole_text(tower=TOWER, tongue="duo", known=KNOWN, kind="n", words=("x",))
        self.assertEqual(told, "x")
        self.assertIs(is_filled(tower=TOWER, tongue="duo", known=KNOWN, kind="n"), True)

    def test_functions_ahead_alone(self):
        tower = ahead_of(TOWER, "mid.is")
        self.check("", ("ADD", "LIT", "MARK", "SET", "TWO", "mid.inc", "x"), tower=tower)
        self.check("", ("LESS", "y"), tower=tower, kind="b")


class FilledTest(unittest.TestCase):
    def check(self, due, kind, known=(), tongue="kin", tower=KIN_TOWER):
        self.assertIs(is_filled(tower, tongue, known, kind), due)
        text = whole_text(tower, tongue, known, kind, ())
        self.assertIs(text is not None, due)
        self.assertIs(next_words(tower, tongue, known, kind, ()) != (), due)
        if due:
            read_term(tower, tongue, known, kind, text)

    def test_told(self):
        self.check(True, "a")
        self.check(False, "b")
        self.check(False, "c")
        self.check(False, "d")
        self.check(True, "b", (("x", "b"),))
        self.check(False, "b", (("x", "b"), ("x", "a")))
        self.check(True, "d", (("x", "d"),))
        self.check(True, "n", tongue="duo", tower=TOWER)
        self.check(True, "b", tongue="duo", tower=(DUO,))
        self.check(True, "num", tongue="ground", tower=())

    def test_a_tongue_without_forms(self):
        self.check(False, "k", tongue="quad", tower=TOWER)
        self.check(True, "k", (("x", "k"),), tongue="quad", tower=TOWER)
        self.check(False, "k", (("x", "l"),), tongue="quad", tower=TOWER)
        far = ("face", "away", "quad", (("f", ("l",), "k"), ("g", (), "l")))
        self.check(True, "k", tongue="quad", tower=(DUO, TRIO, QUAD, far))
        self.check(False, "o", tongue="quad", tower=(DUO, TRIO, QUAD, far))
        half = ("face", "away", "quad", (("f", ("l",), "k"), ("g", ("k",), "l")))
        self.check(False, "k", tongue="quad", tower=(DUO, TRIO, QUAD, half))
        self.check(True, "k", (("x", "l"),), tongue="quad", tower=(DUO, TRIO, QUAD, half))

    def test_kinds_that_need_one_another(self):
        def term(kind, *opens):
            return ("term", kind, opens)

        forms = (
            ("A", (term("b"), term("b")), "a", num(1)),
            ("B", (("name", "c"), term("c", 0), term("c", 0)), "b", num(1)),
            ("C", (term("a"),), "c", num(1)),
        )
        tower = (("tongue", "t", "ground", (("a", "num"), ("b", "num"), ("c", "num")), (), (), forms),)
        self.check(True, "a", tongue="t", tower=tower)
        self.check(True, "c", tongue="t", tower=tower)
        self.assertEqual(len(whole_text(tower, "t", (), "c", ()).split()), 10)
        circle = ((*tower[0][:6], (forms[0], ("B", (term("c"),), "b", num(1)), forms[2])),)
        self.check(False, "a", tongue="t", tower=circle)
        self.check(True, "a", (("x", "c"),), tongue="t", tower=circle)


class WholeTest(unittest.TestCase):
    def told(self, text, kind="n", known=KNOWN, tongue="duo", tower=TOWER):
        words = tuple(text.split())
        whole = whole_text(tower, tongue, known, kind, words)
        self.assertEqual(tuple(whole.split(" "))[: len(words)], words)
        term = read_term(tower, tongue, known, kind, whole)
        self.assertIs(look_term(tower, tongue, known, kind, term), True)
        self.assertEqual(term_text(tower, term), whole)
        return whole

    def test_beginnings(self):
        for text in ("", "SET", "SET x", "SET x = ADD", "TWO a", "TWO x x y", "LIT", "mid.inc", "far.off", "MARK q ="):
            self.told(text)
        for text in ("", "LESS", "mid.is ADD", "far.all"):
            self.told(text, kind="b")
        self.assertEqual(self.told("SET a = LIT 5 ; a"), "SET a = LIT 5 ; a")
        self.assertEqual(self.told("x"), "x")

    def test_where_names_alone_are_left(self):
        for known in ((), (("x", "b"),), (("x", "c"),), (("x", "b"), ("y", "b"))):
            for text in ("K", "V x", "U x", "M", "O a 3", "", "V a b", "U q r"):
                if text != "K" or ("x", "b") in known:
                    self.told(text, kind="a", known=known, tongue="kin", tower=KIN_TOWER)
        self.told("W x", kind="a", known=(("x", "b"), ("y", "b")), tongue="kin", tower=KIN_TOWER)

    def test_made_names_are_new(self):
        known = tuple([(x, "b") for x in "abcdefghijklmnopqrstuvwxyz"])
        self.told("W", kind="a", known=known, tongue="kin", tower=KIN_TOWER)
        self.told("V q", kind="a", known=known, tongue="kin", tower=KIN_TOWER)

    def test_none_at_all(self):
        self.assertIsNone(whole_text(TOWER, "quad", (), "k", ()))
        with self.assertRaises(NoText) as caught:
            whole_text(TOWER, "quad", (), "k", ("x",))
        self.assertEqual((caught.exception.at, caught.exception.wants), (0, ()))

    def test_hundreds_deep(self):
        text = self.told("ADD " * 199)
        self.assertEqual(text.count("ADD"), 199)
        self.told("SET a = " * 66)
        self.told(" ".join([f"SET {letters(at)} = x ;" for at in range(40)]))


class ChanceTest(unittest.TestCase):
    """Each told word goes on and no other one does; of each beginning a whole text is told and read."""

    def words_tried(self, tower, tongue, scope):
        forms = Chance(None).tongue_of(tower, tongue)[6]
        signs = [item[1] for form in forms for item in form[1] if item[0] == "sign"]
        calls = [f for f, _, _ in Chance(None).heads(tower)]
        return sorted({*[form[0] for form in forms], *signs, *calls, *scope, "q", "0", "999"})

    def check_beginning(self, tower, tongue, known, kind, words):
        wants = next_words(tower, tongue, known, kind, words)
        for word in self.words_tried(tower, tongue, [x for x, _ in known]):
            shown = "#" if word.isdigit() else "@" if "@" in wants else word
            try:
                whole = whole_text(tower, tongue, known, kind, (*words, word))
            except NoText as error:
                self.assertEqual((error.at, error.wants), (len(words), wants))
                self.assertTrue(shown not in wants or shown == "@")
                continue
            self.assertIn(shown, wants)
            self.assertEqual(tuple(whole.split(" "))[: len(words) + 1], (*words, word))
            term = read_term(tower, tongue, known, kind, whole)
            self.assertIs(look_term(tower, tongue, known, kind, term), True)
            self.assertEqual(term_text(tower, term), whole)

    def check_tongue(self, rng, tower, tongue, kinds):
        known = tuple([(x, rng.choice(kinds)) for x in "xyx"[: rng.randrange(4)]])
        kind = rng.choice(kinds)
        words = ()
        while len(words) < 12:
            self.check_beginning(tower, tongue, known, kind, words)
            wants = next_words(tower, tongue, known, kind, words)
            if not wants:
                return
            word = rng.choice(wants)
            if word == "@":
                word = rng.choice("xyzq")
                try:
                    next_words(tower, tongue, known, kind, (*words, word))
                except NoText:
                    return
            words = (*words, "7" if word == "#" else word)

    def test_any_tongues(self):
        for seed in range(12):
            chance = Chance(random.Random(seed))
            tower = chance.good_tower()
            for tongue in ["ground", *[item[1] for item in tower if item[0] == "tongue"]]:
                self.check_tongue(chance.chance, tower, tongue, chance.kinds_of(tower, tongue))

    def test_kin(self):
        self.assertIs(look_tower(KIN_TOWER), True)
        for seed in range(40):
            self.check_tongue(random.Random(seed), KIN_TOWER, "kin", ["a", "b", "c", "d"])


class AllTextsTest(unittest.TestCase):
    """All texts of few words of a small tongue, found by trying: just their beginnings go on."""

    KNOWN = (("x", "b"), ("y", "a"))

    def terms(self, kind, scope, size):
        """All terms of so many words, names being of x, y, z."""
        if size == 1:
            yield from [name(x) for x in scope if scope[x] == kind]
        for form in KIN[6]:
            if form[2] == kind:
                for things in self.rows(list(form[1]), [], [], scope, size - 1):
                    yield use("kin", form[0], *things)

    def rows(self, items, made, things, scope, size):
        if not items:
            if size == 0:
                yield things
            return
        if size < len(items):
            return
        item, *rest = items
        if item[0] == "sign":
            yield from self.rows(rest, made, things, scope, size - 1)
        elif item[0] == "lit":
            yield from self.rows(rest, made, [*things, 5], scope, size - 1)
        elif item[0] == "name":
            for x in "xyz":
                if x not in [other for other, _ in made]:
                    yield from self.rows(rest, [*made, (x, item[1])], [*things, x], scope, size - 1)
        else:
            inner = {**scope, **dict([made[k] for k in item[2]])}
            for many in range(1, size + 1):
                for term in self.terms(item[1], inner, many):
                    yield from self.rows(rest, made, [*things, term], scope, size - many)

    def test_beginnings(self):
        found = {}
        for size in range(1, 9):
            for term in self.terms("a", dict(self.KNOWN), size):
                words = tuple(term_text(KIN_TOWER, term).split(" "))
                self.assertEqual(read_term(KIN_TOWER, "kin", self.KNOWN, "a", " ".join(words)), term)
                for many in range(len(words)):
                    found.setdefault(words[:many], set()).add(words[many])
        self.assertGreater(len(found), 400)
        # Behind short beginnings all that goes on is found among the short texts.
        for words, coming in found.items():
            if len(words) <= 2:
                coming = {"#" if word == "5" else word for word in coming}
                wants = next_words(KIN_TOWER, "kin", self.KNOWN, "a", words)
                if wants == ("@",):
                    for x in "xyz":
                        self.assertIs(self.goes_on((*words, x)), x in coming)
                else:
                    self.assertEqual(set(wants), coming, words)

    def goes_on(self, words):
        try:
            next_words(KIN_TOWER, "kin", self.KNOWN, "a", words)
        except NoText:
            return False
        return True


class DeepTest(unittest.TestCase):
    def test_a_beginning_of_hundreds_of_uses(self):
        words = ("ADD",) * 1500
        self.assertEqual(next_words(TOWER, "duo", KNOWN, "n", words), OF_N)
        whole = whole_text(TOWER, "duo", KNOWN, "n", words)
        term = read_term(TOWER, "duo", KNOWN, "n", whole)
        self.assertEqual(whole, term_text(TOWER, term))
        self.assertEqual(nested(3, name("x"), lambda inner, at: call("mid.inc", inner))[0], "call")
        words = ("mid.inc",) * 1500
        self.assertEqual(next_words((DUO, LIB, MID, FAR), "duo", KNOWN, "n", words), OF_N)


if __name__ == "__main__":
    unittest.main()
