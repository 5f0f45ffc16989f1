import unittest

from tests.samples import (
    DUO,
    FAR,
    LIB,
    MID,
    QUAD,
    TOWER,
    TRIO,
    call,
    ground,
    hole,
    let,
    lit,
    name,
    nested,
    num,
    own,
    plus,
    use,
)
from tonguetower.errors import NoBody, NoFunction, NoPart, NoTongue, TowerError
from tonguetower.tongues import GROUND
from tonguetower.towers import ahead_of, face_of, function_of, look_part, look_tower

X, Y = name("x"), name("y")
ONE = use("duo", "LIT", 1)
AHEAD = (DUO, TRIO, LIB, FAR)
NO_NAMES = ("", "A", "Ab", "abcdefg", "a1", "a b", "a.b", "1", "+", " ", "\u00e4")


def add(one, other):
    return use("duo", "ADD", one, other)


def function(body=ONE, called="f", params=(), kind="n"):
    return (called, params, kind, body)


def part(*functions, called="p", tongue="duo"):
    return ("part", called, tongue, functions)


def face(*heads, called="p", tongue="duo"):
    return ("face", called, tongue, heads)


def told_of(item, ahead=AHEAD):
    try:
        return look_part(ahead, item)
    except NoPart as error:
        return (error.word, error.function, error.at)


class FaceTest(unittest.TestCase):
    def test_what_others_see(self):
        self.assertEqual(face_of(MID), ("face", "mid", "duo", (("inc", ("n",), "n"), ("is", ("n", "b"), "b"))))
        due = (("zero", (), "num"), ("one", ("num",), "num"), ("two", ("num", "num"), "num"))
        self.assertEqual(face_of(LIB), ("face", "lib", "ground", due))
        self.assertEqual(face_of(part()), face())

    def test_a_face_let_by_in_its_parts_place(self):
        self.assertIs(look_tower((DUO, face_of(MID))), True)
        self.assertEqual(face_of(part=MID), face_of(MID))


class PartTest(unittest.TestCase):
    def check(self, due, *functions, ahead=AHEAD, **more):
        self.assertEqual(told_of(part(*functions, **more), ahead), due)

    def test_let_by(self):
        self.check(True)
        self.check(True, function())
        self.check(True, function(), function(call("p.f"), "g"), function(call("p.g"), "h"))
        self.assertIs(look_part((DUO,), MID), True)
        self.assertIs(look_part((), LIB), True)
        self.check(True, function(call("lib.zero"), kind="num"), tongue="ground")
        self.check(True, function(X, params=(("x", "n"),)), function(X, "g", (("x", "b"),), "b"))

    def test_name(self):
        for text in NO_NAMES:
            self.check(("name", "", -1), function(), called=text)
        for text in ("ground", "duo", "trio", "lib", "far"):
            self.check(("name", "", -1), function(), called=text)
        self.check(True, function(), called="num")
        self.check(True, function(), called="mid")
        self.check(("name", "", -1), function(), called="mid", ahead=TOWER)

    def test_tongue(self):
        for text in ("", "none", "lib", "far", "p", "quad", "DUO"):
            self.check(("tongue", "", -1), function(), tongue=text)
        self.check(("tongue", "", -1), tongue="duo", ahead=())
        self.check(True, tongue="trio")
        self.check(True, tongue="ground", ahead=())
        self.check(("name", "", -1), function(), tongue="none", called="A")

    def test_twice(self):
        for text in NO_NAMES:
            self.check(("twice", text, -1), function(called=text))
            self.check(("twice", text, -1), function(), function(called=text))
        self.check(("twice", "f", -1), function(), function())
        self.check(("twice", "f", -1), function(), function(called="g"), function())
        self.check(True, function(called="p"), function(called="duo"))

    def test_param(self):
        for text in NO_NAMES:
            self.check(("param", "f", 0), function(params=((text, "n"),)))
            self.check(("param", "f", 1), function(params=(("x", "n"), (text, "n"))))
        self.check(("param", "f", 1), function(params=(("x", "n"), ("x", "b"))))
        self.check(("param", "f", 2), function(params=(("x", "n"), ("y", "b"), ("x", "n"))))
        for kind in ("", "num", "m", "x"):
            self.check(("param", "f", 0), function(params=(("x", kind),)))
            self.check(("param", "g", 1), function(), function(called="g", params=(("x", "n"), ("y", kind))))
        self.check(True, function(params=(("x", "n"), ("y", "b"))))

    def test_gives(self):
        for kind in ("", "num", "m", "x"):
            self.check(("gives", "f", -1), function(kind=kind))
            self.check(("gives", "g", -1), function(), function(called="g", kind=kind))

    def test_body(self):
        self.check(("form", "f", 0), function(num(1)))
        self.check(("form", "f", 2), function(add(ONE, use("duo", "NONE"))))
        self.check(("call", "f", 0), function(call("none.f")))
        self.check(("many", "f", 1), function(add(use("duo", "LIT"), ONE)))
        self.check(("many", "f", 0), function(use("duo", "LIT", True)))
        self.check(("lit", "f", 1), function(add(use("duo", "LIT", 1000), ONE)))
        self.check(("bind", "f", 0), function(use("duo", "SET", "A", ONE, ONE)))
        self.check(("lost", "f", 2), function(add(X, Y), params=(("x", "n"),)))
        self.check(("kind", "f", 0), function(X, params=(("x", "b"),)))
        self.check(("kind", "g", 0), function(), function(ONE, called="g", kind="b"))

    def test_calls_of_those_ahead_alone(self):
        self.check(("call", "f", 0), function(call("p.f")))
        self.check(("call", "f", 0), function(call("p.g")), function(called="g"))
        self.check(("call", "g", 0), function(), function(call("p.g"), "g"))
        self.check(True, function(), function(add(call("p.f"), call("p.f")), "g"))
        self.check(True, function(call("far.off", Y), params=(("y", "b"),)))
        self.check(("call", "f", 0), function(call("mid.inc", ONE)))
        self.check(True, function(call("mid.inc", ONE)), ahead=TOWER)

    def test_calls_in_the_same_tongue_alone(self):
        self.check(("call", "f", 0), function(call("lib.zero")))
        self.check(("call", "f", 0), function(call("lib.zero"), kind="m"), tongue="trio")
        self.check(("call", "f", 0), function(call("far.off", Y), kind="m", params=(("y", "t"),)), tongue="trio")
        self.check(("call", "f", 0), function(call("far.all"), kind="num"), tongue="ground")
        self.check(True, function(use("trio", "ONE"), kind="m"), tongue="trio")

    def test_functions_ahead_by_their_heads(self):
        f = function(X, params=(("x", "n"),))
        self.check(True, f, function(call("p.f", ONE), "g"))
        self.check(("many", "g", 0), f, function(call("p.f"), "g"))
        self.check(("kind", "g", 1), f, function(call("p.f", Y), "g", (("y", "b"),)))
        self.check(("kind", "g", 0), f, function(call("p.f", ONE), "g", (), "b"))

    def test_two_are_due(self):
        self.check(("twice", "", -1), function(num(1), "", (("A", "n"),), "no"))
        self.check(("param", "f", 0), function(num(1), "f", (("A", "n"),), "no"))
        self.check(("gives", "f", -1), function(num(1), kind="no"))
        self.check(("form", "f", 0), function(num(1)), function(kind="no"))
        self.check(("param", "f", 1), function(num(1), "f", (("x", "n"), ("x", "n"), ("A", "n"))), function())
        self.check(("tongue", "", -1), function(num(1), ""), tongue="no")
        self.check(("call", "f", 0), function(call("p.g")), function(called="f"))

    def test_hundreds_deep(self):
        deep = nested(1500, X, lambda inner, at: add(inner, ONE))
        self.check(True, function(deep, params=(("x", "n"),)))
        self.check(("lost", "f", 1500), function(deep))

    def test_by_name_again_and_unchanged(self):
        for _ in range(2):
            self.assertIs(look_part(ahead=AHEAD, item=part(function())), True)
        self.assertEqual(part(function()), part(function()))

    def test_the_refusal(self):
        with self.assertRaises(NoPart) as caught:
            look_part((), part())
        self.assertIsInstance(caught.exception, TowerError)


class LookFaceTest(unittest.TestCase):
    def check(self, due, *heads, **more):
        self.assertEqual(told_of(face(*heads, **more)), due)

    def test_let_by(self):
        self.check(True)
        self.check(True, ("f", (), "n"), ("g", ("n", "b", "n"), "b"))
        self.assertIs(look_part((DUO,), FAR), True)
        self.check(True, ("f", ("num",), "num"), tongue="ground")

    def test_refused(self):
        for text in NO_NAMES:
            self.check(("name", "", -1), called=text)
            self.check(("twice", text, -1), (text, (), "n"))
        for text in ("ground", "duo", "lib", "far"):
            self.check(("name", "", -1), called=text)
        self.check(("tongue", "", -1), tongue="none")
        self.check(("tongue", "", -1), tongue="lib")
        self.check(("twice", "f", -1), ("f", (), "n"), ("f", ("n",), "b"))
        self.check(("param", "f", 0), ("f", ("num",), "n"))
        self.check(("param", "g", 2), ("f", (), "n"), ("g", ("n", "n", "x"), "n"))
        self.check(("gives", "f", -1), ("f", ("n", "n"), "num"))
        self.check(("gives", "f", -1), ("f", (), ""))

    def test_two_are_due(self):
        self.check(("name", "", -1), called="A", tongue="none")
        self.check(("tongue", "", -1), ("", (), "n"), tongue="none")
        self.check(("twice", "", -1), ("", ("x",), "x"))
        self.check(("param", "f", 0), ("f", ("x",), "x"), ("f", (), "n"))
        self.check(("gives", "f", -1), ("f", (), "x"), ("f", (), "n"))


class TowerTest(unittest.TestCase):
    def told(self, *tower):
        try:
            return look_tower(tower)
        except NoPart as error:
            return (error.word, error.function, error.at)
        except NoTongue as error:
            return (error.word, error.head, error.at)

    def test_let_by(self):
        self.assertIs(look_tower(()), True)
        self.assertIs(look_tower(TOWER), True)
        self.assertIs(look_tower(tower=(FAR[:1] + ("far", "ground", ()),)), True)
        for many in range(len(TOWER)):
            self.assertIs(look_tower(TOWER[:many]), True)

    def test_each_behind_those_ahead(self):
        self.assertEqual(self.told(TRIO, DUO), ("below", "", -1))
        self.assertEqual(self.told(MID, DUO), ("tongue", "", -1))
        self.assertEqual(self.told(DUO, DUO), ("name", "", -1))
        self.assertEqual(self.told(DUO, MID, MID), ("name", "", -1))
        self.assertEqual(self.told(DUO, FAR, FAR), ("name", "", -1))
        self.assertEqual(self.told(DUO, ("face", "duo", "duo", ())), ("name", "", -1))
        self.assertEqual(self.told(FAR), ("tongue", "", -1))

    def test_a_part_behind_its_own_face(self):
        self.assertEqual(self.told(DUO, face_of(MID), MID), ("name", "", -1))
        self.assertEqual(self.told(DUO, MID, face_of(MID)), ("name", "", -1))

    def test_a_face_in_the_place_of_a_part(self):
        user = part(function(call("mid.inc", ONE)))
        self.assertIs(look_tower((DUO, MID, user)), True)
        self.assertIs(look_tower((DUO, face_of(MID), user)), True)
        self.assertEqual(self.told(DUO, user, MID), ("call", "f", 0))
        self.assertEqual(self.told(DUO, user, face_of(MID)), ("call", "f", 0))

    def test_the_first_refusal(self):
        bad = part(function(num(1)), called="bad")
        worse = ("tongue", "low", "none", (), (), (), ())
        self.assertEqual(self.told(DUO, bad, worse), ("form", "f", 0))
        self.assertEqual(self.told(worse, DUO, bad), ("below", "", -1))
        self.assertEqual(self.told(DUO, face(("f", ("x",), "n")), bad), ("param", "f", 0))

    def test_meanings_call_functions_of_faces_and_parts_ahead(self):
        form = ("G", (("term", "n", ()),), "n", call("lib.one", hole(0)))
        low = ("tongue", "low", "ground", (("n", "num"),), ("a",), ("a", "a"), (form,))
        self.assertIs(look_tower((LIB, low)), True)
        self.assertIs(look_tower((face_of(LIB), low)), True)
        self.assertEqual(self.told(low, LIB), ("call", "G", 0))


class FunctionTest(unittest.TestCase):
    def test_found(self):
        for item in (LIB, MID):
            for some in item[3]:
                self.assertEqual(function_of(TOWER, f"{item[1]}.{some[0]}"), some)
        self.assertEqual(function_of(tower=TOWER, f="mid.is"), MID[3][1])

    def test_none(self):
        row = ["", ".", "mid", "inc", "mid.", ".inc", "mid.none", "none.inc", "mid.inc.", "mid.inc.inc", ".mid.inc"]
        row += [
            "mid..inc",
            "inc.mid",
            "MID.inc",
            "mid.INC",
            " mid.inc",
            "mid.inc ",
            "mid inc",
            "mid.inc\n",
            "mid.is.inc",
        ]
        row += [
            "duo.LIT",
            "duo.n",
            "duo.inc",
            "trio.ONE",
            "ground.NUM",
            "ground.num",
            "duo.ADD",
            "quad.",
            "\u00e4.\u00f6",
        ]
        for f in [*row, "far.none", "far.", "far", "far.off.off", "lib.inc", "mid.zero"]:
            for tell in (function_of, ahead_of):
                with self.assertRaises(NoFunction, msg=f) as caught:
                    tell(TOWER, f)
                self.assertEqual(caught.exception.f, f)
                self.assertIsInstance(caught.exception, KeyError)
                self.assertNotIsInstance(caught.exception, TowerError)

    def test_of_a_face(self):
        for f in ("far.off", "far.all"):
            for tell in (function_of, ahead_of):
                with self.assertRaises(NoBody) as caught:
                    tell(TOWER, f)
                self.assertEqual(caught.exception.f, f)
                self.assertIsInstance(caught.exception, TowerError)
        with self.assertRaises(NoBody):
            function_of((DUO, face_of(MID)), "mid.inc")

    def test_no_tower(self):
        with self.assertRaises(NoFunction):
            function_of((), "mid.inc")


class AheadTest(unittest.TestCase):
    def test_items_and_functions_ahead(self):
        self.assertEqual(ahead_of(TOWER, "lib.zero"), (DUO, TRIO, QUAD, (*LIB[:3], ())))
        self.assertEqual(ahead_of(TOWER, "lib.two"), (DUO, TRIO, QUAD, (*LIB[:3], LIB[3][:2])))
        self.assertEqual(ahead_of(TOWER, "mid.is"), (DUO, TRIO, QUAD, LIB, (*MID[:3], MID[3][:1])))
        self.assertEqual(ahead_of(tower=(LIB,), f="lib.one"), ((*LIB[:3], LIB[3][:1]),))

    def test_let_by(self):
        for f in ("lib.zero", "lib.two", "mid.inc", "mid.is"):
            self.assertIs(look_tower(ahead_of(TOWER, f)), True)

    def test_the_ground_is_no_item(self):
        self.assertNotIn(GROUND, ahead_of(TOWER, "mid.is"))


class LetByTest(unittest.TestCase):
    def test_all_that_a_tongue_may_be(self):
        forms = (
            ("LET", (("name", "n"), ("term", "n", ()), ("term", "n", (0,))), "n", let(own(0), hole(0), hole(1))),
            ("K", (("lit",),), "n", ground("NUM", lit(0))),
            ("+", (("term", "n", ()), ("sign", "+"), ("term", "n", ())), "n", plus(hole(0), hole(1))),
        )
        low = ("tongue", "low", "ground", (("n", "num"),), ("a",), ("a", "a"), forms)
        user = ("part", "user", "low", (("f", (), "n", use("low", "LET", "a", use("low", "K", 1), name("a"))),))
        self.assertIs(look_tower((low, user)), True)


if __name__ == "__main__":
    unittest.main()
