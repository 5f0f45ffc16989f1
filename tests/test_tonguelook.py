import unittest

from tests.samples import (
    DUO,
    FAR,
    LIB,
    MID,
    QUAD,
    REST,
    TOWER,
    TRIO,
    call,
    choose,
    ground,
    hole,
    let,
    letters,
    lit,
    loop,
    made,
    name,
    nested,
    num,
    own,
    plus,
    times,
    turn,
    use,
)
from tonguetower.errors import NoTongue, TowerError
from tonguetower.tonguelook import look_tongue
from tonguetower.tongues import GROUND

AHEAD = (DUO, LIB, MID, FAR)
ANY_TEXTS = ("", "A", "Ab", "abcdefg", "a1", "a b", "a.b", "1", "+", " ", "\u00e4")
NO_SIGNS = ("", "a", "Ab", "ABCDEFG", "A1", "A B", "++", " ", "1", ".", "'", "\u00c4")


def told_of(tongue, ahead=AHEAD):
    try:
        return look_tongue(ahead, tongue)
    except NoTongue as error:
        return (error.word, error.head, error.at)


KINDS = (("m", "n"), ("t", "b"))
FAULTS = ("bad", "worse")


def top(forms=(), called="top", below="duo", kinds=KINDS, faults=FAULTS, tells=FAULTS):
    return ("tongue", called, below, kinds, faults, tells, forms)


def duo(head, *things):
    return use("duo", head, *things)


def add(one, other):
    return duo("ADD", one, other)


def less(one, other):
    return duo("LESS", one, other)


class HeadTest(unittest.TestCase):
    def check(self, due, ahead=AHEAD, **more):
        self.assertEqual(told_of(top(**more), ahead), due)

    def test_let_by(self):
        self.assertIs(look_tongue(AHEAD, top()), True)
        self.assertIs(look_tongue((), DUO), True)
        self.assertIs(look_tongue((DUO,), TRIO), True)
        self.assertIs(look_tongue((DUO, TRIO), QUAD), True)
        self.assertIs(look_tongue(AHEAD, TRIO), True)
        self.assertIs(look_tongue((), ("tongue", "low", "ground", (), ("a",), ("a", "a"), ())), True)

    def test_name(self):
        for text in ANY_TEXTS:
            self.check(("name", "", -1), called=text)
        self.check(("name", "", -1), called="ground")
        for item in AHEAD:
            self.check(("name", "", -1), called=item[1])
        self.check(True, called="duo", below="ground", kinds=(("m", "num"),), ahead=(LIB,))
        self.check(True, called="num")
        self.check(True, called="inc")

    def test_below(self):
        for below in ("", "none", "top", "mid", "lib", "far", "Ground", "GROUND", "trio"):
            self.check(("below", "", -1), below=below)
        self.check(("below", "", -1), ahead=())
        self.check(True, ahead=(DUO,))
        self.check(True, below="ground", kinds=(("m", "num"),), ahead=())
        self.check(True, below="trio", kinds=(("m", "t"),), ahead=(DUO, TRIO))

    def test_kind(self):
        for text in ANY_TEXTS:
            self.check(("kind", "", 0), kinds=((text, "n"), ("t", "b")))
            self.check(("kind", "", 1), kinds=(("m", "n"), (text, "b")))
        self.check(("kind", "", 1), kinds=(("m", "n"), ("m", "b")))
        self.check(("kind", "", 2), kinds=(("m", "n"), ("t", "b"), ("m", "n")))
        for meaning in ("", "num", "m", "t", "N", "none"):
            self.check(("kind", "", 1), kinds=(("m", "n"), ("t", meaning), ("u", "n")))
        self.check(("kind", "", 0), kinds=(("m", "none"), ("m", "n")))
        self.check(("kind", "", 0), below="ground")
        self.check(True, kinds=(("n", "b"), ("b", "n"), ("ground", "n")))
        self.check(True, kinds=())

    def test_kinds_of_the_tongue_beneath_alone(self):
        self.check(("kind", "", 0), below="trio", kinds=(("m", "n"),), ahead=(DUO, TRIO))
        self.check(True, below="ground", kinds=(("m", "num"), ("t", "num")))

    def test_fault(self):
        for text in ANY_TEXTS:
            self.check(("fault", "", 1), faults=("bad", text))
            self.check(("fault", "", 0), faults=(text, "worse"))
        self.check(("fault", "", 1), faults=("bad", "bad"))
        self.check(("fault", "", 2), faults=("bad", "worse", "bad"))
        self.check(True, faults=("worse", "need", "bad"))
        self.check(True, faults=("ground", "top"), tells=("top", "ground"))

    def test_tells(self):
        self.check(("tells", "", 0), tells=())
        self.check(("tells", "", 1), tells=("bad",))
        self.check(("tells", "", 2), tells=("bad", "bad", "bad"))
        self.check(("tells", "", 2), tells=("bad", "bad", "none", "none"))
        self.check(("tells", "", 0), tells=("none", "bad"))
        self.check(("tells", "", 1), tells=("bad", "dry"))
        self.check(("tells", "", 0), tells=("", "bad"))
        self.check(("tells", "", 0), tells=("none",))
        self.check(("tells", "", 1), tells=("bad", "none", "bad"))
        self.check(("tells", "", 0), faults=(), tells=("bad", "bad"))
        self.check(("tells", "", 0), faults=(), tells=())
        self.check(True, tells=("worse", "worse"))
        self.check(True, faults=("bad", "worse", "none"), tells=("bad", "bad"))

    def test_tells_of_a_tongue_without_faults(self):
        none = ("tongue", "none", "ground", (("k", "num"),), ("f",), ("f", "f"), ())
        one = ("tongue", "one", "none", (("k", "k"),), (), ("f",), ())
        self.assertEqual(told_of(one, (none,)), ("tells", "", 0))
        self.check(True, below="none", kinds=(("m", "k"),), tells=("bad",), ahead=(none,))
        self.check(("tells", "", 1), below="none", kinds=(("m", "k"),), ahead=(none,))

    def test_order(self):
        wrong = (("go", (), "none", hole(0)),)
        more = {"called": "Top", "below": "none", "kinds": (("M", "n"),), "faults": ("F",), "tells": (), "forms": wrong}
        row = [
            (("name", "", -1), "called", "top"),
            (("below", "", -1), "below", "duo"),
            (("kind", "", 0), "kinds", (("m", "n"),)),
            (("fault", "", 0), "faults", ("f",)),
            (("tells", "", 0), "tells", ("f", "f")),
            (("head", "go", -1), "forms", ()),
        ]
        for due, key, right in row:
            self.check(due, **more)
            more[key] = right
        self.check(True, **more)

    def test_first_of_several(self):
        self.check(("kind", "", 1), kinds=(("m", "n"), ("m", "none"), ("T", "b")))
        self.check(("fault", "", 1), faults=("bad", "B", "bad"))
        self.check(("tells", "", 0), tells=("no", "no", "no"))


class FormTest(unittest.TestCase):
    def check(self, due, *forms):
        self.assertEqual(told_of(top(forms)), due)

    def form(self, items=(), head="GO", kind="m", meaning=duo("LIT", 1)):
        return (head, items, kind, meaning)

    def test_let_by(self):
        items = (("lit",), ("name", "m"), ("sign", "("), ("term", "t", (0,)), ("name", "t"))
        items += (("term", "m", (0, 1)), ("term", "m", (1,)))
        self.check(True, self.form(items), self.form(head="+"), self.form(head="ABCDEF"))
        self.check(True, self.form())

    def test_head(self):
        for text in NO_SIGNS:
            self.check(("head", text, -1), self.form(head=text))
            self.check(("head", text, -1), self.form(), self.form(head=text))
        self.check(("head", "GO", -1), self.form(), self.form())
        self.check(("head", "?", -1), self.form(head="?"), self.form(), self.form(head="?"))
        self.check(True, self.form(head="LIT"), self.form(head="NUM"), self.form(head="LET"))

    def test_sign(self):
        for text in NO_SIGNS:
            self.check(("sign", "GO", 0), self.form((("sign", text),)))
            self.check(("sign", "GO", 2), self.form((("lit",), ("sign", "THEN"), ("sign", text))))
        for text in ("+", "?", "A", "ABCDEF", "GO"):
            self.check(True, self.form((("sign", text),)))

    def test_kind(self):
        for kind in ("", "n", "num", "none", "M"):
            self.check(("kind", "GO", 0), self.form((("term", kind, ()),)))
            self.check(("kind", "GO", 1), self.form((("lit",), ("name", kind))))
            self.check(("kind", "GO", 2), self.form((("name", "m"), ("sign", "+"), ("term", kind, (0,)))))

    def test_opens(self):
        ahead = (("name", "m"), ("sign", "+"), ("name", "t"), ("term", "m", ()), ("lit",))
        for opens in ((), (0,), (1,), (0, 1)):
            self.check(True, self.form((*ahead, ("term", "m", opens))))
        for opens in ((1, 0), (0, 0), (1, 1), (2,), (0, 2), (0, 1, 2), (-1,), (-1, 0), (0, 1, 1), (5,), (10**30,)):
            self.check(("opens", "GO", 5), self.form((*ahead, ("term", "m", opens))))

    def test_opens_names_ahead_alone(self):
        self.check(("opens", "GO", 0), self.form((("term", "m", (0,)), ("name", "m"))))
        self.check(("opens", "GO", 1), self.form((("name", "m"), ("term", "m", (0, 1)), ("name", "t"))))
        self.check(("opens", "GO", 1), self.form((("name", "m"), ("term", "m", (1,)), ("name", "t"))))
        self.check(True, self.form((("name", "m"), ("term", "m", (0,)), ("name", "t"))))
        self.check(("opens", "GO", 1), self.form((("lit",), ("term", "m", (0,)))))

    def test_gives(self):
        for kind in ("", "n", "num", "none"):
            self.check(("gives", "GO", -1), self.form(kind=kind))

    def test_order(self):
        wrong = (("term", "none", (3,)), ("sign", "a"))
        self.check(("head", "go", -1), self.form(wrong, "go", "none", hole(3)))
        self.check(("kind", "GO", 0), self.form(wrong, "GO", "none", hole(3)))
        self.check(("opens", "GO", 0), self.form((("term", "m", (3,)), ("sign", "a")), "GO", "none", hole(3)))
        self.check(("sign", "GO", 1), self.form((("term", "m", ()), ("sign", "a")), "GO", "none", hole(3)))
        self.check(("gives", "GO", -1), self.form((("term", "m", ()), ("sign", "A")), "GO", "none", hole(3)))
        self.check(("hole", "GO", 0), self.form((("term", "m", ()), ("sign", "A")), "GO", "m", hole(3)))

    def test_form_by_form(self):
        self.check(("hole", "ONE", 0), self.form(head="ONE", meaning=hole(0)), self.form(head="two"))
        self.check(("gives", "ONE", -1), self.form(head="ONE", kind="no"), self.form(head="ONE"))
        self.check(("hole", "TWO", 1), self.form(head="ONE"), self.form(head="TWO", meaning=add(hole(0), hole(1))))
        self.check(("head", "ONE", -1), self.form(head="ONE"), self.form(head="ONE", meaning=hole(0)))

    def test_each_form_has_its_own_terms(self):
        two = self.form((("term", "m", ()), ("term", "m", ())), "TWO", "m", hole(1))
        one = self.form((("term", "m", ()),), "ONE", "m", hole(1))
        self.check(("hole", "ONE", 0), two, one)
        self.check(True, two)


# Literals 0, 1; names 0 of m, 1 of t; terms 0 of m, 1 of m that opens name 0, 2 of t that opens both.
ITEMS = (
    ("lit",),
    ("sign", "+"),
    ("term", "m", ()),
    ("name", "m"),
    ("lit",),
    ("term", "m", (0,)),
    ("name", "t"),
    ("term", "t", (0, 1)),
)

ONE = duo("LIT", 1)
FLAG = less(ONE, ONE)


def put(text, one, other):
    return duo("SET", text, one, other)


def two(*things):
    return duo("TWO", *things)


class MeaningTest(unittest.TestCase):
    def told(self, meaning, kind="m", below="duo", items=ITEMS, ahead=AHEAD):
        kinds = (("m", "n"), ("t", "b")) if below == "duo" else (("m", "num"), ("t", "num"))
        told = told_of(top((("GO", items, kind, meaning),), below=below, kinds=kinds), ahead)
        if told is True:
            return True
        self.assertEqual(told[1], "GO")
        return (told[0], told[2])

    def check(self, meaning, due, **more):
        self.assertEqual(self.told(meaning, **more), due, meaning)

    def test_let_by(self):
        self.check(hole(0), True)
        self.check(ONE, True)
        self.check(add(hole(0), duo("LIT", lit(1))), True)
        self.check(put(own(0), hole(0), hole(1)), True)
        self.check(put(own(0), hole(0), name(own(0))), True)
        self.check(put("x", hole(0), add(name("x"), hole(0))), True)
        self.check(two(own(0), hole(1), own(1), hole(1), ONE, name(own(1))), True)
        self.check(call("mid.inc", hole(0)), True)
        self.check(call("far.off", less(hole(0), hole(0))), True)
        self.check(choose(lit(0), hole(0), ONE), True)
        self.check(times(lit(1), hole(0), add(REST, duo("LIT", turn(0)))), True)
        self.check(less(hole(0), hole(0)), True, kind="t")
        self.check(let("x", hole(0), plus(hole(0), name("x"))), True, below="ground")
        self.check(loop(num(lit(0)), own(0), num(0), hole(1)), True, below="ground")
        self.check(call("lib.two", num(made("mid.inc", lit(0))), num(3)), True, below="ground")

    def test_form(self):
        self.check(duo("NONE", 1), ("form", 0))
        self.check(duo("", 1), ("form", 0))
        self.check(num(1), ("form", 0))
        self.check(use("duo", "NUM", 1), ("form", 0))
        self.check(use("ground", "LIT", 1), ("form", 0))
        self.check(use("top", "GO"), ("form", 0))
        self.check(use("trio", "ONE"), ("form", 0), ahead=(*AHEAD, TRIO))
        self.check(use("", "LIT", 1), ("form", 0))
        self.check(add(hole(0), num(1)), ("form", 2))
        self.check(duo("LIT", 1), ("form", 0), below="ground")

    def test_call(self):
        texts = ("mid", "mid.", ".inc", "", "inc", "mid.inc.inc", "MID.INC", "duo.LIT", " mid.inc")
        for f in ("mid.none", "none.inc", *texts):
            self.check(call(f, hole(0)), ("call", 0))
        self.check(call("lib.one", hole(0)), ("call", 0))
        self.check(call("mid.inc", hole(0)), ("call", 0), below="ground")
        self.check(call("mid.inc", hole(0)), ("call", 0), ahead=(DUO,))
        self.check(add(hole(0), call("far.inc", hole(0))), ("call", 2))

    def test_many(self):
        self.check(duo("LIT"), ("many", 0))
        self.check(duo("LIT", 1, 1), ("many", 0))
        self.check(duo("ADD", hole(0)), ("many", 0))
        self.check(duo("ADD", hole(0), hole(0), hole(0)), ("many", 0))
        self.check(call("mid.inc"), ("many", 0))
        self.check(call("mid.inc", hole(0), hole(0)), ("many", 0))
        self.check(call("far.off"), ("many", 0))
        self.check(choose(0), ("many", 0))
        self.check(choose(lit(0)), ("many", 0))
        self.check(add(hole(0), choose(0)), ("many", 2))

    def test_many_of_another_sort(self):
        numbers = (1, lit(0), turn(0), made("lib.zero"))
        names = ("x", own(0))
        meanings = (hole(0), name("x"), name(own(0)), ONE, REST)
        meanings += (call("mid.inc", hole(0)), choose(0, hole(0)), times(0, hole(0), REST))
        for thing in (*names, *meanings):
            self.check(duo("LIT", thing), ("many", 0))
        for thing in (*numbers, *names):
            self.check(add(thing, hole(0)), ("many", 0))
            self.check(add(hole(0), thing), ("many", 0))
            self.check(call("mid.inc", thing), ("many", 0))
            self.check(choose(0, hole(0), thing), ("many", 0))
            self.check(choose(0, thing), ("many", 0))
        for thing in (*numbers, *meanings):
            self.check(put(thing, hole(0), hole(0)), ("many", 0))
        self.check(put(hole(0), own(0), hole(1)), ("many", 0))

    def test_lit_numbers(self):
        for number in (0, 1, 999, lit(0), lit(1)):
            self.check(duo("LIT", number), True)
            self.check(choose(number, hole(0)), True)
            self.check(times(number, hole(0), REST), True)
        for number in (-1, 1000, 10**30, -(10**30), lit(2), lit(-1), lit(10**30), turn(0), turn(-1), turn(10**30)):
            self.check(duo("LIT", number), ("lit", 0))
            self.check(choose(number, hole(0)), ("lit", 0))
            self.check(times(number, hole(0), REST), ("lit", 0))
            self.check(add(hole(0), duo("LIT", number)), ("lit", 2))

    def test_lit_turns(self):
        def turned(number):
            return duo("LIT", number)

        self.check(times(2, hole(0), turned(turn(0))), True)
        self.check(times(2, hole(0), turned(turn(1))), ("lit", 2))
        self.check(times(2, hole(0), turned(turn(-1))), ("lit", 2))
        self.check(times(2, turned(turn(0)), REST), ("lit", 1))
        self.check(times(turn(0), hole(0), REST), ("lit", 0))
        self.check(times(2, hole(0), times(turn(0), hole(0), REST)), True)
        self.check(times(2, hole(0), times(turn(1), hole(0), REST)), ("lit", 2))
        self.check(times(2, hole(0), times(1, turned(turn(0)), turned(turn(1)))), True)
        self.check(times(2, hole(0), times(1, turned(turn(1)), REST)), ("lit", 3))
        self.check(times(2, hole(0), times(1, REST, turned(turn(2)))), ("lit", 4))
        self.check(times(2, times(1, hole(0), turned(turn(0))), turned(turn(0))), True)
        self.check(times(2, times(1, hole(0), turned(turn(1))), REST), ("lit", 3))
        self.check(add(times(2, hole(0), REST), turned(turn(0))), ("lit", 4))
        self.check(times(2, hole(0), add(choose(turn(0), hole(0)), turned(turn(0)))), True)

    def test_lit_made(self):
        row = (made("lib.zero"), made("lib.one", 3), made("mid.inc", lit(1)), made("mid.is", 0, 999))
        for number in (*row, made("far.off", 1)):
            self.check(duo("LIT", number), True)
            self.check(num(number), True, below="ground")
            self.check(choose(number, hole(0)), True)
            self.check(duo("LIT", made("lib.two", number, made("lib.one", number))), True)
        self.check(times(1, hole(0), duo("LIT", made("lib.one", turn(0)))), True)

    def test_lit_made_wrong(self):
        wrong = [made("none.f"), made("lib.none"), made("lib"), made("")]
        wrong += [made("lib.one"), made("lib.one", 1, 2), made("lib.zero", 0), made("far.all", 1)]
        wrong += [made("lib.one", 1000), made("lib.one", -1), made("lib.one", lit(2)), made("lib.one", turn(0))]
        for number in wrong:
            self.check(duo("LIT", number), ("lit", 0))
            self.check(choose(number, hole(0)), ("lit", 0))
            self.check(times(number, hole(0), REST), ("lit", 0))
            self.check(duo("LIT", made("lib.two", 1, number)), ("lit", 0))
            self.check(duo("LIT", made("lib.two", made("lib.one", number), 1)), ("lit", 0))
        self.check(duo("LIT", made("mid.inc", 1)), ("lit", 0), ahead=(DUO, LIB))

    def test_made_of_another_sort(self):
        # The document names a refusal at this part, though hardly which of the two words it is.
        for thing in ("x", own(0), hole(0), name("x"), REST, ONE):
            for number in (made("lib.one", thing), made("lib.two", 1, thing), made("lib.one", made("lib.one", thing))):
                word, at = self.told(add(hole(0), duo("LIT", number)))
                self.assertIn(word, ("many", "lit"))
                self.assertEqual(at, 2)

    def test_made_deep_within(self):
        number = nested(3, 3, lambda inner, at: made("lib.one", inner))
        self.check(duo("LIT", number), True)
        number = nested(3, 1000, lambda inner, at: made("lib.one", inner))
        self.check(duo("LIT", number), ("lit", 0))

    def test_bind_texts(self):
        for text in ANY_TEXTS:
            self.check(put(text, hole(0), hole(0)), ("bind", 0))
            self.check(add(hole(0), put(text, hole(0), hole(0))), ("bind", 2))
            self.check(two(own(0), hole(0), text, hole(0), hole(0), FLAG), ("bind", 0))
        self.check(put("abcdef", hole(0), name("abcdef")), True)

    def test_bind_own(self):
        for at in (2, -1, 7, 10**30, -2):
            self.check(put(own(at), hole(0), hole(0)), ("bind", 0))
            self.check(two("x", hole(0), own(at), hole(0), hole(0), FLAG), ("bind", 0))
        self.check(put(own(0), hole(0), hole(1)), True)
        self.check(put(own(0), hole(0), hole(0)), ("bind", 0), items=(("term", "m", ()),))

    def test_bind_own_of_another_kind(self):
        self.check(put(own(1), hole(0), hole(0)), ("bind", 0))
        self.check(two(own(1), hole(0), own(0), hole(0), hole(0), FLAG), ("bind", 0))
        self.check(two("x", hole(0), own(0), hole(0), hole(0), FLAG), ("bind", 0))
        self.check(let(own(1), hole(0), hole(0)), True, below="ground")

    def test_bind_twice(self):
        self.check(two("x", hole(0), "x", hole(0), hole(0), FLAG), ("bind", 0))
        both = ("BOTH", (("name", "n"), ("name", "n"), ("term", "n", (0, 1))), "n", hole(0))
        ahead = (("tongue", "duo", "ground", DUO[3], DUO[4], DUO[5], (*DUO[6], both)),)
        self.check(duo("BOTH", own(0), own(0), hole(0)), ("bind", 0), ahead=ahead)
        self.check(duo("BOTH", own(0), "x", hole(0)), True, ahead=ahead)
        self.check(duo("BOTH", "y", "x", hole(0)), True, ahead=ahead)

    def test_bind_around(self):
        self.check(put("x", hole(0), put("x", hole(0), hole(0))), ("bind", 2))
        self.check(put(own(0), hole(0), put(own(0), hole(0), hole(0))), ("bind", 2))
        self.check(put("x", hole(0), add(hole(0), put("y", hole(0), put("x", hole(0), hole(0))))), ("bind", 6))
        self.check(put("x", put("x", hole(0), hole(0)), hole(0)), True)
        self.check(put(own(0), put(own(0), hole(0), hole(1)), hole(1)), True)
        self.check(add(put("x", hole(0), name("x")), put("x", hole(0), name("x"))), True)
        self.check(put(own(0), hole(0), put("x", hole(1), hole(1))), True)

    def test_bind_around_where_it_is_opened(self):
        again = put("x", ONE, ONE)
        self.check(two("x", again, "y", ONE, ONE, FLAG), ("bind", 1))
        self.check(two("x", ONE, "y", again, ONE, FLAG), ("bind", 2))
        self.check(two("x", ONE, "y", ONE, again, FLAG), True)
        self.check(two("y", ONE, "x", again, ONE, FLAG), ("bind", 2))
        self.check(two("y", again, "x", ONE, ONE, FLAG), True)
        self.check(two("y", ONE, "x", ONE, again, less(again, ONE)), ("bind", 7))
        self.check(two("x", ONE, "y", ONE, again, less(again, ONE)), True)

    def test_lost(self):
        for text in ("x", "", "A", "+"):
            self.check(name(text), ("lost", 0))
        for at in (0, 1, 2, -1):
            self.check(name(own(at)), ("lost", 0))
        self.check(put("x", name("x"), hole(0)), ("lost", 1))
        self.check(put("x", hole(0), name("y")), ("lost", 2))
        self.check(put("x", hole(0), name(own(0))), ("lost", 2))
        self.check(put(own(0), hole(0), name("x")), ("lost", 2))
        self.check(put(own(0), hole(0), name(own(1))), ("lost", 2))
        self.check(add(put("x", hole(0), name("x")), name("x")), ("lost", 4))

    def test_lost_where_it_is_not_opened(self):
        x, y = name("x"), name("y")
        self.check(two("x", x, "y", x, ONE, y), True)
        self.check(two("x", name("y"), "y", x, ONE, y), ("lost", 1))
        self.check(two("x", x, "y", x, x, y), ("lost", 3))
        self.check(two("x", x, "y", x, ONE, less(x, x)), ("lost", 5))
        self.check(two(own(0), name(own(0)), own(1), name(own(0)), ONE, name(own(1))), True)
        self.check(two(own(0), name(own(0)), own(1), name(own(0)), name(own(0)), FLAG), ("lost", 3))

    def test_hole(self):
        for at in (3, -1, 10**30, -3):
            self.check(hole(at), ("hole", 0))
            self.check(add(hole(0), hole(at)), ("hole", 2))
        self.check(hole(0), ("hole", 0), items=(("lit",), ("name", "m")))

    def test_open(self):
        self.check(hole(1), ("open", 0))
        self.check(put(own(0), hole(1), hole(1)), ("open", 1))
        self.check(put("x", hole(0), hole(1)), ("open", 2))
        self.check(put(own(0), hole(0), hole(1)), True)
        self.check(put(own(0), hole(0), hole(0)), True)
        self.check(put(own(0), hole(0), add(hole(1), put("x", hole(1), hole(1)))), True)
        self.check(add(put(own(0), hole(0), hole(1)), hole(1)), ("open", 4))

    def test_open_both(self):
        self.check(two(own(0), ONE, own(1), call("far.off", hole(2)), ONE, FLAG), True)
        self.check(two("x", ONE, own(1), call("far.off", hole(2)), ONE, FLAG), ("open", 3))
        self.check(two(own(0), ONE, "x", call("far.off", hole(2)), ONE, FLAG), ("open", 3))
        self.check(two(own(0), ONE, own(1), ONE, ONE, hole(2)), ("open", 4))
        self.check(two(own(0), call("far.off", hole(2)), own(1), ONE, ONE, FLAG), ("open", 2))
        self.check(two(own(0), hole(1), own(1), hole(1), ONE, FLAG), True)
        self.check(two(own(0), hole(1), own(1), hole(1), hole(1), FLAG), ("open", 3))

    def test_rest(self):
        self.check(REST, ("rest", 0))
        self.check(times(1, REST, hole(0)), ("rest", 1))
        self.check(times(1, hole(0), REST), True)
        self.check(times(1, hole(0), hole(0)), True)
        self.check(times(1, hole(0), add(REST, REST)), ("rest", 4))
        self.check(times(1, hole(0), choose(0, REST, REST)), ("rest", 4))
        self.check(add(times(1, hole(0), REST), REST), ("rest", 4))
        self.check(add(times(1, hole(0), REST), times(1, hole(0), REST)), True)

    def test_rest_of_times_within_times(self):
        self.check(times(1, hole(0), times(2, hole(0), REST)), True)
        self.check(times(1, hole(0), times(2, REST, REST)), True)
        self.check(times(1, hole(0), times(2, REST, add(REST, hole(0)))), True)
        self.check(times(1, hole(0), times(2, hole(0), add(REST, REST))), ("rest", 6))
        self.check(times(1, hole(0), add(times(2, REST, REST), REST)), ("rest", 6))
        self.check(times(1, hole(0), add(times(2, hole(0), REST), REST)), True)
        self.check(times(1, hole(0), add(REST, times(2, REST, REST))), ("rest", 5))
        self.check(times(1, times(2, hole(0), REST), REST), True)
        self.check(times(1, times(2, REST, hole(0)), REST), ("rest", 2))
        self.check(times(1, hole(0), times(2, times(3, REST, REST), REST)), True)
        self.check(times(1, hole(0), times(2, hole(0), times(3, REST, add(REST, REST)))), ("rest", 8))

    def test_kind(self):
        self.check(FLAG, ("kind", 0))
        self.check(ONE, ("kind", 0), kind="t")
        self.check(add(ONE, FLAG), ("kind", 2))
        self.check(hole(0), ("kind", 0), kind="t")
        self.check(call("far.off", hole(0)), ("kind", 1))
        self.check(call("mid.is", ONE, FLAG), ("kind", 0))
        self.check(call("mid.is", FLAG, FLAG), ("kind", 1), kind="t")
        self.check(call("mid.is", ONE, ONE), ("kind", 2), kind="t")
        self.check(call("far.all"), True, kind="t")
        self.check(call("far.all"), ("kind", 0))
        self.check(two(own(0), ONE, own(1), hole(2), ONE, FLAG), ("kind", 2))
        self.check(put(own(0), hole(0), FLAG), ("kind", 2))

    def test_kinds_beneath(self):
        # Beneath all kinds mean num: a hole of t may stand for one of m.
        self.check(let(own(0), hole(0), let(own(1), hole(0), plus(hole(2), hole(1)))), True, below="ground")
        self.check(hole(0), True, below="ground", kind="t")

    def test_kinds_of_names(self):
        x, y = name("x"), name("y")
        self.check(two("x", x, "y", x, ONE, x), ("lost", 4))
        self.check(two("x", x, "y", y, ONE, y), ("kind", 2))
        self.check(two("x", x, "y", call("far.off", y), ONE, y), True)
        self.check(two("x", x, "y", call("far.off", x), ONE, y), ("kind", 3))
        self.check(two(own(0), ONE, own(1), name(own(1)), ONE, FLAG), ("kind", 2))
        self.check(two(own(0), ONE, own(1), call("far.off", name(own(0))), ONE, FLAG), ("kind", 3))

    def test_kind_through_choose_and_times(self):
        self.check(choose(0, ONE, FLAG), ("kind", 2))
        self.check(choose(0, FLAG, ONE), ("kind", 1))
        self.check(choose(0, FLAG, call("far.all")), True, kind="t")
        self.check(add(ONE, choose(0, ONE, FLAG)), ("kind", 4))
        self.check(times(0, FLAG, REST), ("kind", 1))
        self.check(times(0, ONE, FLAG), ("kind", 2))
        self.check(times(0, FLAG, REST), True, kind="t")
        self.check(choose(0, times(1, choose(0, ONE, FLAG), REST)), ("kind", 4))

    def test_kind_of_a_rest(self):
        self.check(times(0, ONE, add(REST, ONE)), True)
        self.check(times(0, ONE, call("far.off", REST)), ("kind", 3))
        self.check(times(0, FLAG, less(REST, ONE)), ("kind", 5), kind="t")
        self.check(times(0, ONE, call("far.off", times(1, FLAG, call("mid.is", ONE, REST)))), True)
        self.check(times(0, ONE, call("far.off", times(1, REST, FLAG))), ("kind", 4))
        self.check(times(0, ONE, add(REST, call("far.off", choose(0, REST)))), ("rest", 6))

    def test_two_are_due_at_one_part(self):
        self.check(duo("NONE", 1000, "A", hole(9)), ("form", 0), kind="t")
        self.check(call("none.f", 1, "A"), ("call", 0), kind="t")
        self.check(call("mid.inc", 1000), ("many", 0), kind="t")
        self.check(call("mid.inc"), ("many", 0), kind="t")
        self.check(duo("LIT", 1000, 1000), ("many", 0), kind="t")
        self.check(put("A", 1, hole(9)), ("many", 0), kind="t")
        self.check(choose(1000), ("many", 0))
        self.check(choose(lit(7), 3), ("many", 0))
        self.check(duo("LIT", 1000), ("lit", 0), kind="t")
        self.check(put("A", hole(9), hole(9)), ("bind", 0), kind="t")
        self.check(put("x", hole(0), hole(0)), ("kind", 0), kind="t")
        self.check(name("x"), ("lost", 0), kind="t")
        self.check(hole(9), ("hole", 0), kind="t")
        self.check(hole(1), ("open", 0), kind="t")
        self.check(REST, ("rest", 0), kind="t")
        self.check(times(1, ONE, add(REST, call("far.off", REST))), ("rest", 5))
        self.check(times(1000, REST, REST), ("lit", 0))

    def test_lit_ahead_of_bind(self):
        pair = ("PAIR", (("name", "n"), ("lit",), ("name", "n"), ("term", "n", (0, 1))), "n", hole(0))
        ahead = (("tongue", "duo", "ground", DUO[3], DUO[4], DUO[5], (*DUO[6], pair)),)
        self.check(duo("PAIR", "A", 1000, "A", hole(0)), ("lit", 0), ahead=ahead)
        self.check(duo("PAIR", "A", 999, "A", hole(0)), ("bind", 0), ahead=ahead, kind="t")
        self.check(duo("PAIR", 1, 1000, "A", hole(0)), ("many", 0), ahead=ahead)
        self.check(duo("PAIR", "x", 999, own(0), hole(1)), True, ahead=ahead)

    def test_part_by_part(self):
        self.check(add(hole(9), num(1)), ("hole", 1))
        self.check(add(add(ONE, REST), num(1)), ("rest", 3))
        self.check(add(ONE, add(name("x"), choose(0))), ("lost", 3))
        self.check(choose(0, hole(1), num(1)), ("open", 1))
        self.check(times(0, choose(0, ONE, FLAG), REST), ("kind", 3))
        self.check(less(num(1), num(1)), ("kind", 0))
        self.check(put("x", name("x"), duo("NONE")), ("lost", 1))
        self.check(times(2, hole(9), choose(0)), ("hole", 1))

    def test_hundreds_deep(self):
        many = 1200
        for wrap, each in (
            (lambda inner, at: add(inner, ONE), 2),
            (lambda inner, at: add(ONE, inner), 2),
            (lambda inner, at: call("mid.inc", inner), 1),
            (lambda inner, at: choose(0, inner), 1),
            (lambda inner, at: put(letters(at), ONE, inner), 2),
            (lambda inner, at: put("x", inner, name("x")), 2),
            (lambda inner, at: times(1, hole(0), inner), 2),
            (lambda inner, at: times(1, inner, REST), 2),
        ):
            self.check(nested(many, hole(0), wrap), True)
            word, at = self.told(nested(many, FLAG, wrap))
            self.assertEqual(word, "kind")
            self.assertIn(at, (many, 2 * many))
            self.assertIn(at, (many, each * many))

    def test_what_is_refused(self):
        with self.assertRaises(NoTongue) as told:
            look_tongue(AHEAD, top((("GO", (), "m", hole(0)),)))
        self.assertIsInstance(told.exception, TowerError)
        self.assertEqual((told.exception.word, told.exception.head, told.exception.at), ("hole", "GO", 0))

    def test_by_name_and_again(self):
        for _ in range(2):
            self.assertIs(look_tongue(ahead=(), tongue=DUO), True)
            self.assertRaises(NoTongue, look_tongue, ahead=(), tongue=TRIO)
            self.assertRaises(NoTongue, look_tongue, ahead=TOWER, tongue=TRIO)
            self.assertRaises(NoTongue, look_tongue, ahead=(), tongue=GROUND)


if __name__ == "__main__":
    unittest.main()
