import unittest

from tests.samples import DUO, FAR, LIB, MID, TOWER, TRIO, call, let, letters, loop, name, nested, num, plus, use
from tonguetower.errors import NoTerm, TowerError
from tonguetower.kinds import look_term

X, Y, Z = name("x"), name("y"), name("z")
ONE = use("duo", "LIT", 1)
KNOWN = (("x", "n"), ("y", "b"))


def add(one, other):
    return use("duo", "ADD", one, other)


def less(one, other):
    return use("duo", "LESS", one, other)


def put(text, one, other):
    return use("duo", "SET", text, one, other)


def two(*things):
    return use("duo", "TWO", *things)


class LookTest(unittest.TestCase):
    def told(self, term, kind="n", known=KNOWN, tongue="duo", tower=TOWER):
        try:
            return look_term(tower, tongue, known, kind, term)
        except NoTerm as error:
            return (error.word, error.at)

    def check(self, term, due, **more):
        self.assertEqual(self.told(term, **more), due)

    def test_let_by(self):
        for term in (X, ONE, add(X, ONE), put("a", X, name("a")), call("mid.inc", X), call("far.off", Y)):
            self.assertIs(self.told(term), True)
        for term in (Y, less(X, ONE), call("mid.is", X, Y), call("far.all")):
            self.assertIs(self.told(term, kind="b"), True)

    def test_let_by_on_the_ground(self):
        known = (("x", "num"),)
        row = [num(0), num(999), X, let("a", X, plus(name("a"), X)), loop(X, "x", X, X), call("lib.two", X, num(1))]
        for term in [*row, call("lib.zero")]:
            self.check(term, True, tongue="ground", kind="num", known=known)
            self.check(call("lib.one", term), True, tongue="ground", kind="num", known=known)
        self.check(num(5), True, tongue="ground", kind="num", known=(), tower=())

    def test_let_by_in_an_upper_tongue(self):
        one = use("trio", "ONE")
        self.check(one, True, tongue="trio", kind="m")
        self.check(use("trio", "IS", one, one), True, tongue="trio", kind="t")

    def test_form(self):
        self.check(use("duo", "NONE", 1), ("form", 0))
        self.check(use("duo", "NUM", 1), ("form", 0))
        self.check(num(1), ("form", 0))
        self.check(use("trio", "ONE"), ("form", 0))
        self.check(use("none", "LIT", 1), ("form", 0))
        self.check(use("duo", "lit", 1), ("form", 0))
        self.check(use("trio", "LIT", 1), ("form", 0), tongue="trio", kind="m")
        self.check(add(X, plus(X, X)), ("form", 2))
        self.check(ONE, ("form", 0), tongue="ground", kind="num")

    def test_one_head_in_two_tongues(self):
        other = ("tongue", "other", "ground", (("k", "num"),), (), (), (("LIT", (), "k", call("lib.zero")),))
        tower = (*TOWER, other)
        self.check(use("other", "LIT"), True, tower=tower, tongue="other", kind="k")
        self.check(use("duo", "LIT", 1), ("form", 0), tower=tower, tongue="other", kind="k")
        self.check(use("other", "LIT"), ("form", 0), tower=tower)

    def test_call(self):
        for f in ("mid.none", "none.inc", "duo.inc", "inc.mid"):
            self.check(call(f, X), ("call", 0))
        self.check(call("lib.one", X), ("call", 0))
        self.check(call("lib.zero"), ("call", 0))
        self.check(call("mid.inc", X), ("call", 0), tongue="ground", kind="num", known=(("x", "num"),))
        self.check(call("mid.inc", use("trio", "ONE")), ("call", 0), tongue="trio", kind="m")
        self.check(call("far.none"), ("call", 0), kind="b")
        self.check(call("mid.inc", X), ("call", 0), tower=(DUO, LIB))
        self.check(add(X, call("far.of", Y)), ("call", 2))

    def test_calls_of_each_part_and_face(self):
        more = ("part", "more", "duo", (("f", (), "n", ONE), ("g", (("a", "b"), ("b", "n")), "b", name("a"))))
        tower = (DUO, MID, FAR, more)
        self.check(call("more.f"), True, tower=tower)
        self.check(call("more.g", Y, X), True, tower=tower, kind="b")
        self.check(call("more.g", X, Y), ("kind", 1), tower=tower, kind="b")
        self.check(call("mid.inc", X), True, tower=tower)

    def test_many(self):
        self.check(use("duo", "LIT"), ("many", 0))
        self.check(use("duo", "LIT", 1, 2), ("many", 0))
        self.check(use("duo", "ADD", X), ("many", 0))
        self.check(use("duo", "ADD", X, X, X), ("many", 0))
        self.check(use("duo", "ADD"), ("many", 0))
        self.check(use("trio", "ONE", use("trio", "ONE")), ("many", 0), tongue="trio", kind="m")
        self.check(call("mid.inc"), ("many", 0))
        self.check(call("mid.inc", X, X), ("many", 0))
        self.check(call("far.all", X), ("many", 0), kind="b")

    def test_many_of_another_sort(self):
        for thing in ("x", X, ONE):
            self.check(use("duo", "LIT", thing), ("many", 0))
        for thing in ("x", 1, 0):
            self.check(use("duo", "ADD", thing, X), ("many", 0))
            self.check(use("duo", "ADD", X, thing), ("many", 0))
            self.check(call("mid.inc", thing), ("many", 0))
        for thing in (1, X, ONE):
            self.check(put(thing, X, X), ("many", 0))
        self.check(put(X, "a", X), ("many", 0))

    def test_a_truth_is_no_literal(self):
        self.check(use("duo", "LIT", True), ("many", 0))
        self.check(use("duo", "LIT", False), ("many", 0))
        self.check(num(True), ("many", 0), tongue="ground", kind="num")
        self.check(add(X, use("duo", "LIT", False)), ("many", 2))
        self.check(use("duo", "LIT", 0), True)
        self.check(use("duo", "LIT", 1), True)

    def test_lit(self):
        for number in (0, 1, 999):
            self.check(use("duo", "LIT", number), True)
        for number in (1000, 1001, -1, -999, 10**30, -(10**30)):
            self.check(use("duo", "LIT", number), ("lit", 0))
            self.check(add(use("duo", "LIT", number), X), ("lit", 1))

    def test_each_literal(self):
        pair = ("PAIR", (("lit",), ("sign", ","), ("lit",)), "n", plus(num(("lit", 0)), num(("lit", 1))))
        tower = ((*DUO[:6], (pair,)),)
        self.check(use("duo", "PAIR", 0, 999), True, tower=tower)
        self.check(use("duo", "PAIR", 0, 1000), ("lit", 0), tower=tower)
        self.check(use("duo", "PAIR", -1, 0), ("lit", 0), tower=tower)
        self.check(use("duo", "PAIR", 0, True), ("many", 0), tower=tower)

    def test_bind(self):
        for text in ("", "A", "abcdefg", "a1", "a b", "a.b", "+", "\u00e4"):
            self.check(put(text, X, X), ("bind", 0))
            self.check(add(X, put(text, X, X)), ("bind", 2))
        self.check(two("a", X, "a", X, X, Y), ("bind", 0))
        self.check(two("a", X, "B", X, X, Y), ("bind", 0))
        self.check(two("abcdef", X, "b", X, X, Y), True)

    def test_a_name_may_be_hidden(self):
        self.check(put("x", X, put("x", X, X)), True)
        self.check(two("y", Y, "x", Y, X, X), True)
        self.check(let("x", X, let("x", X, X)), True, tongue="ground", kind="num", known=(("x", "num"),))

    def test_lost(self):
        self.check(Z, ("lost", 0))
        self.check(X, ("lost", 0), known=())
        self.check(add(X, Z), ("lost", 2))
        self.check(put("z", Z, Z), ("lost", 1))
        self.check(put("z", X, Z), True)
        self.check(add(put("z", X, Z), Z), ("lost", 4))
        self.check(loop(Z, "z", X, Z), ("lost", 1), tongue="ground", kind="num", known=(("x", "num"),))
        self.check(loop(X, "z", Z, Z), ("lost", 2), tongue="ground", kind="num", known=(("x", "num"),))

    def test_lost_where_not_opened(self):
        a, b = name("a"), name("b")
        self.check(two("a", a, "b", add(a, put("c", ONE, a)), X, b), True)
        self.check(two("a", b, "b", a, X, b), ("lost", 1))
        self.check(two("a", a, "b", a, a, b), ("lost", 3))
        self.check(two("a", a, "b", a, b, b), ("lost", 3))
        self.check(two("a", a, "b", a, X, a), ("lost", 4))

    def test_kind(self):
        self.check(Y, ("kind", 0))
        self.check(X, ("kind", 0), kind="b")
        self.check(less(X, X), ("kind", 0))
        self.check(ONE, ("kind", 0), kind="b")
        self.check(call("mid.is", X, Y), ("kind", 0))
        self.check(call("mid.is", X, X), ("kind", 2), kind="b")
        self.check(call("far.off", less(X, X)), True)
        self.check(call("far.off", X), ("kind", 1))
        self.check(add(less(X, X), X), ("kind", 1))
        self.check(add(X, Y), ("kind", 2))
        self.check(less(X, less(X, X)), ("kind", 2), kind="b")
        self.check(put("a", Y, X), ("kind", 1))

    def test_kinds_of_names_made(self):
        a, b = name("a"), name("b")
        self.check(two("a", a, "b", b, X, b), ("kind", 2))
        self.check(two("a", a, "b", a, X, call("mid.is", a, b)), ("lost", 5))
        self.check(two("a", a, "b", call("mid.inc", b), X, b), ("kind", 3))
        self.check(two("x", X, "y", X, X, Y), True)
        self.check(two("y", Y, "x", Y, X, X), True)
        self.check(two("y", Y, "x", X, X, X), ("kind", 2))
        self.check(put("y", X, Y), True)
        self.check(put("y", X, less(Y, Y)), ("kind", 2))

    def test_the_later_of_two_known(self):
        self.check(X, True, known=(("x", "b"), ("x", "n")))
        self.check(X, ("kind", 0), known=(("x", "n"), ("x", "b")))
        self.check(X, True, known=(("x", "n"), ("x", "b")), kind="b")
        self.check(add(X, X), True, known=(("x", "n"), ("y", "n"), ("x", "b"), ("x", "n")))

    def test_two_are_due_at_one_part(self):
        self.check(use("duo", "NONE", True, "X", 1000), ("form", 0), kind="b")
        self.check(use("duo", "LIT", 1000, 1), ("many", 0))
        self.check(use("duo", "LIT", True), ("many", 0), kind="b")
        self.check(use("duo", "LIT", 1000), ("lit", 0), kind="b")
        self.check(put("A", X, X), ("bind", 0), kind="b")
        self.check(use("duo", "SET", "A", X), ("many", 0))
        self.check(call("none.none", 1, "x"), ("call", 0), kind="b")
        self.check(call("mid.inc", 1, 2), ("many", 0), kind="b")
        self.check(call("mid.inc", 1), ("many", 0), kind="b")
        self.check(Z, ("lost", 0), kind="b")
        both = ("BOTH", (("lit",), ("name", "n"), ("name", "n")), "n", num(1))
        tower = ((*DUO[:6], (both,)),)
        self.check(use("duo", "BOTH", 1, "a", "b"), True, tower=tower)
        self.check(use("duo", "BOTH", 1000, "a", "a"), ("lit", 0), tower=tower)
        self.check(use("duo", "BOTH", 1, "a", "a"), ("bind", 0), tower=tower, kind="b")
        self.check(use("duo", "BOTH", 1000, 5, "a"), ("many", 0), tower=tower)

    def test_part_by_part(self):
        self.check(add(Z, use("duo", "NONE")), ("lost", 1))
        self.check(add(add(X, Y), use("duo", "NONE")), ("kind", 3))
        self.check(add(ONE, add(use("duo", "LIT", 1000), Z)), ("lit", 3))
        self.check(less(use("duo", "NONE"), X), ("kind", 0))
        self.check(put("1", Z, num(1)), ("bind", 0))
        self.check(put("a", Z, num(1)), ("lost", 1))
        self.check(call("mid.is", call("mid.inc", Y), Z), ("kind", 2), kind="b")

    def test_hundreds_deep(self):
        many = 1200
        term = nested(many, X, lambda inner, at: add(inner, ONE))
        self.check(term, True)
        self.check(term, ("lost", many), known=())
        term = nested(many, Z, lambda inner, at: add(ONE, inner))
        self.check(term, ("lost", 2 * many))
        term = nested(many, Y, lambda inner, at: call("mid.inc", inner))
        self.check(term, ("kind", many))
        self.check(nested(many, X, lambda inner, at: put(letters(at), ONE, inner)), True)
        self.check(nested(many, X, lambda inner, at: put("z", inner, Z)), True)

    def test_what_is_refused(self):
        with self.assertRaises(NoTerm) as told:
            look_term(TOWER, "duo", KNOWN, "n", add(X, Z))
        self.assertIsInstance(told.exception, TowerError)
        self.assertEqual((told.exception.word, told.exception.at), ("lost", 2))
        self.assertIs(type(told.exception.at), int)

    def test_by_name_and_again(self):
        for _ in range(2):
            told = look_term(tower=TOWER, tongue="duo", known=KNOWN, kind="n", term=add(X, X))
            self.assertIs(told, True)
            self.assertRaises(NoTerm, look_term, tower=(DUO, TRIO), tongue="duo", known=(), kind="n", term=X)


if __name__ == "__main__":
    unittest.main()
