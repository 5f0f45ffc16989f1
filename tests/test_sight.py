import random
import unittest

from tests.chance import Chance
from tests.kin import KIN
from tests.plainsight import plain_rows
from tests.refusals import RefusalTest
from tests.samples import DUO, LIB, MID, TOWER, call, let, loop, name, nested, num, plus, use
from tonguetower.coming import whole_text
from tonguetower.errors import NoBody, NoFunction, NoTerm
from tonguetower.kinds import look_term
from tonguetower.reader import read_term
from tonguetower.sight import binder_at, fits_at, kind_at, places_of, sight_at
from tonguetower.terms import parts
from tonguetower.towers import ahead_of, face_of, function_of, look_tower

X, Y, A = name("x"), name("y"), name("a")
PARAMS = (("x", "n"), ("y", "b"))
ALL = (kind_at, sight_at, binder_at, fits_at)
PX, PY = ("param", 0), ("param", 1)


def d(head, *things):
    return use("duo", head, *things)


def with_body(body, params=PARAMS, kind="n", tongue="duo", ahead=TOWER):
    """A tower with a function p.f behind a function p.e."""
    one = ("e", (), "n", d("LIT", 1)) if tongue == "duo" else ("e", (), kind, num(1))
    return (*ahead, ("part", "p", tongue, (one, ("f", params, kind, body), ("g", (), one[2], one[3]))))


class SightTest(RefusalTest):
    def tower(self, body, **more):
        tower = with_body(body, **more)
        self.assertIs(look_tower(tower), True)
        return tower


# 0 SET, 1 x, 2 TWO, 3 a, 4 ADD, 5 a, 6 LIT, 7 MARK, 8 LESS, 9 x, 10 a.
BODY = d(
    "SET",
    "a",
    X,
    d("TWO", "a", A, "y", d("ADD", A, d("LIT", 1)), d("MARK", "x", 3), d("LESS", X, A)),
)


class KindTest(SightTest):
    def test_of_each_part(self):
        tower = self.tower(BODY)
        self.assertEqual([kind_at(tower, "p.f", at) for at in range(11)], ["n"] * 8 + ["b", "n", "n"])
        self.assertEqual(kind_at(tower=tower, f="p.f", at=8), "b")

    def test_calls_and_names(self):
        body = call("mid.is", call("mid.inc", X), Y)
        tower = self.tower(body, kind="b")
        self.assertEqual([kind_at(tower, "p.f", at) for at in range(4)], ["b", "n", "n", "b"])
        self.assertEqual(kind_at(TOWER, "mid.is", 0), "b")
        self.assertEqual(kind_at(TOWER, "lib.two", 0), "num")


class InSightTest(SightTest):
    def check(self, tower, at, *due):
        told = sight_at(tower, "p.f", at)
        self.assertIsInstance(told, list)
        self.assertEqual(told, list(due))

    def test_params_and_names_of_uses(self):
        tower = self.tower(BODY)
        x, y, a = ("x", "n", PX), ("y", "b", PY), ("a", "n", ("use", 0, 0))
        inner, other = ("a", "n", ("use", 2, 0)), ("y", "b", ("use", 2, 1))
        self.check(tower, 0, x, y)
        self.check(tower, 1, x, y)
        self.check(tower, 2, a, x, y)
        self.check(tower, 3, inner, x, y)
        for at in (4, 5, 6):
            self.check(tower, at, inner, x, other)
        self.check(tower, 7, a, x, y)
        for at in (8, 9, 10):
            self.check(tower, at, a, x, other)
        self.assertEqual(sight_at(tower=tower, f="p.f", at=0), [x, y])

    def test_two_of_one_name_within_one_another(self):
        body = d("SET", "x", X, d("SET", "x", X, d("SET", "x", X, X)))
        tower = self.tower(body)
        binders = [PX, PX, ("use", 0, 0), ("use", 0, 0), ("use", 2, 0), ("use", 2, 0), ("use", 4, 0)]
        for at, binder in enumerate(binders):
            self.check(tower, at, ("x", "n", binder), ("y", "b", PY))

    def test_of_another_kind(self):
        body = d("TWO", "y", Y, "x", d("LIT", 1), d("LIT", 2), X)
        tower = self.tower(body)
        self.check(tower, 0, ("x", "n", PX), ("y", "b", PY))
        self.check(tower, 1, ("x", "n", PX), ("y", "n", ("use", 0, 0)))
        self.check(tower, 2, ("x", "b", ("use", 0, 1)), ("y", "n", ("use", 0, 0)))
        self.check(tower, 3, ("x", "n", PX), ("y", "b", PY))
        self.check(tower, 4, ("x", "b", ("use", 0, 1)), ("y", "b", PY))

    def test_nothing_in_sight(self):
        tower = self.tower(d("LIT", 1), params=())
        self.check(tower, 0)

    def test_rising_by_names(self):
        params = tuple([(x, "n") for x in ("b", "ab", "z", "aa", "a")])
        tower = self.tower(d("SET", "ba", name("z"), name("a")), params=params)
        names = ["a", "aa", "ab", "b", "ba", "z"]
        self.assertEqual([row[0] for row in sight_at(tower, "p.f", 2)], names)
        self.assertEqual(sight_at(tower, "p.f", 2)[0], ("a", "n", ("param", 4)))

    def test_within_calls_and_the_ground(self):
        body = let("a", X, call("lib.two", A, loop(A, "b", X, let("b", name("b"), plus(A, name("b"))))))
        tower = self.tower(body, params=(("x", "num"),), kind="num", tongue="ground")
        x, a = ("x", "num", PX), ("a", "num", ("use", 0, 0))
        self.check(tower, 1, x)
        for at in (2, 3, 4, 5, 6):
            self.check(tower, at, a, x)
        self.check(tower, 7, a, ("b", "num", ("use", 4, 0)), x)
        self.check(tower, 8, a, ("b", "num", ("use", 4, 0)), x)
        for at in (9, 10, 11):
            self.check(tower, at, a, ("b", "num", ("use", 7, 0)), x)

    def test_told_anew(self):
        tower = self.tower(BODY)
        sight_at(tower, "p.f", 3).clear()
        self.assertEqual(len(sight_at(tower, "p.f", 3)), 3)


class BinderTest(SightTest):
    def test_of_names(self):
        tower = self.tower(BODY)
        due = {1: PX, 3: ("use", 2, 0), 5: ("use", 2, 0), 9: PX, 10: ("use", 0, 0)}
        for at, binder in due.items():
            self.assertEqual(binder_at(tower, "p.f", at), binder)
        self.assertEqual(binder_at(tower=tower, f="p.f", at=1), PX)
        self.assertEqual(binder_at(TOWER, "mid.is", 0), PY)

    def test_places(self):
        tower = self.tower(BODY)
        due = {PX: [1, 9], PY: [], ("use", 0, 0): [10], ("use", 2, 0): [3, 5], ("use", 2, 1): [], ("use", 7, 0): []}
        for binder, places in due.items():
            told = places_of(tower, "p.f", binder)
            self.assertIsInstance(told, list)
            self.assertEqual(told, places)
        self.assertEqual(places_of(tower=tower, f="p.f", binder=PX), [1, 9])

    def test_places_within_one_another(self):
        body = d("SET", "x", X, d("SET", "x", d("ADD", X, X), d("ADD", X, d("SET", "y", X, name("y")))))
        tower = self.tower(body)
        self.assertEqual(places_of(tower, "p.f", PX), [1])
        self.assertEqual(places_of(tower, "p.f", ("use", 0, 0)), [4, 5])
        self.assertEqual(places_of(tower, "p.f", ("use", 2, 0)), [7, 9])
        self.assertEqual(places_of(tower, "p.f", ("use", 8, 0)), [10])
        self.assertEqual(places_of(tower, "p.f", PY), [])

    def test_both_names_of_one_use(self):
        body = d("TWO", "a", A, "b", d("ADD", A, A), X, name("b"))
        tower = self.tower(body)
        self.assertEqual(places_of(tower, "p.f", ("use", 0, 0)), [1, 3, 4])
        self.assertEqual(places_of(tower, "p.f", ("use", 0, 1)), [6])

    def test_told_anew(self):
        tower = self.tower(BODY)
        places_of(tower, "p.f", PX).clear()
        self.assertEqual(places_of(tower, "p.f", PX), [1, 9])

    def test_deep(self):
        body = nested(1000, X, lambda inner, at: d("SET", "x", X, inner))
        tower = with_body(body)
        self.assertEqual(binder_at(tower, "p.f", 2000), ("use", 1998, 0))
        self.assertEqual(places_of(tower, "p.f", PX), [1])
        self.assertEqual(kind_at(tower, "p.f", 2000), "n")
        self.assertEqual(sight_at(tower, "p.f", 1999)[0], ("x", "n", ("use", 1996, 0)))


OF_N = ("ADD", "LIT", "MARK", "SET", "TWO", "far.off", "mid.inc", "p.e")
OF_B = ("LESS", "far.all", "mid.is")


class FitsTest(SightTest):
    def check(self, tower, at, *due):
        told = fits_at(tower, "p.f", at)
        self.assertIsInstance(told, tuple)
        self.assertEqual(told, due)

    def rising(self, *words):
        return tuple(sorted(words))

    def test_of_each_part(self):
        tower = self.tower(BODY)
        due = {0: "x", 1: "x", 2: "ax", 3: "ax", 4: "ax", 5: "ax", 6: "ax", 7: "ax", 9: "ax", 10: "ax"}
        for at, names in due.items():
            self.check(tower, at, *self.rising(*OF_N, *names))
        self.check(tower, 8, *self.rising(*OF_B, "y"))
        self.assertEqual(fits_at(tower=tower, f="p.f", at=8), self.rising(*OF_B, "y"))

    def test_names_hidden_by_another_kind(self):
        tower = self.tower(d("TWO", "y", Y, "x", d("LIT", 1), d("LIT", 2), X))
        self.check(tower, 1, *self.rising(*OF_N, "x", "y"))
        self.check(tower, 2, *self.rising(*OF_N, "y"))
        self.check(tower, 3, *self.rising(*OF_N, "x"))
        self.check(tower, 4, *self.rising(*OF_B, "x", "y"))

    def test_functions_ahead_alone(self):
        # p.g stands behind p.f, and p.f itself can't be called; lib is of the ground.
        tower = self.tower(X)
        self.check(tower, 0, *self.rising(*OF_N, "x"))
        self.assertEqual(fits_at(tower, "p.g", 0), self.rising(*OF_N, "p.f"))
        self.assertEqual(fits_at(tower, "p.e", 0), self.rising(*[word for word in OF_N if word != "p.e"]))
        heads = ("*", "+", "-", "/", "<", "=", "IF", "LET", "LOOP", "NEED", "NUM")
        self.assertEqual(fits_at((LIB,), "lib.zero", 0), heads)
        self.assertEqual(fits_at((LIB,), "lib.one", 0), (*heads, "lib.zero", "x"))

    def test_items_ahead_alone(self):
        behind = ("part", "last", "duo", (("f", (), "n", d("LIT", 1)),))
        tower = (*self.tower(X), behind)
        self.check(tower, 0, *self.rising(*OF_N, "x"))
        self.assertNotIn("mid.inc", fits_at((DUO, face_of(MID), behind)[::2], "last.f", 0))
        self.assertIn("mid.inc", fits_at((DUO, face_of(MID), behind), "last.f", 0))

    def test_kinds_that_are_empty_but_by_names(self):
        body = use("kin", "W", "q", use("kin", "Z"))
        kin = ("part", "p", "kin", (("f", (("y", "b"),), "a", use("kin", "W", "q", Y)),))
        self.assertIs(look_tower((KIN, kin)), True)
        with self.assertRaises(NoTerm):
            look_term((KIN,), "kin", (), "a", body)
        self.assertEqual(fits_at((KIN, kin), "p.f", 1), ("y",))
        # Of kind c there is a name where M makes one; K, U and W want a b, and D has no term at all.
        self.assertEqual(fits_at((KIN, kin), "p.f", 0), ("K", "M", "O", "T", "U", "V", "W", "Z"))
        none = (KIN, ("part", "p", "kin", (("f", (), "a", use("kin", "Z")),)))
        self.assertEqual(fits_at(none, "p.f", 0), ("M", "O", "U", "V", "Z"))
        made = (KIN, ("part", "p", "kin", (("f", (), "a", use("kin", "M", "c", name("c"))),)))
        self.assertEqual(fits_at(made, "p.f", 1), ("c",))

    def test_by_chance(self):
        told = 0
        for seed in range(900, 915):
            tower = Chance(random.Random(seed)).good_tower()
            for item in [item for item in tower if item[0] == "part"]:
                for one in item[3]:
                    told += self.check_all(tower, item, one)
        self.assertGreater(told, 200)

    def check_all(self, tower, item, one):
        f = f"{item[1]}.{one[0]}"
        rows = plain_rows(tower, item[2], one)
        self.assertEqual(len(rows), len(parts(one[3])))
        for at, (term, kind, sight) in enumerate(rows):
            self.assertEqual(kind_at(tower, f, at), kind)
            due = sorted([(x, *found) for x, found in sight.items()])
            self.assertEqual(sight_at(tower, f, at), due)
            if term[0] == "name":
                self.assertEqual(binder_at(tower, f, at), sight[term[1]][1])
                self.assertIn(at, places_of(tower, f, sight[term[1]][1]))
            self.check_fits(ahead_of(tower, f), item[2], (term, kind, due), fits_at(tower, f, at))
        binders = [("param", k) for k in range(len(one[1]))]
        for at, (term, _, _) in enumerate(rows):
            if term[0] == "use":
                names = [thing for thing in term[3] if isinstance(thing, str)]
                binders += [("use", at, j) for j in range(len(names))]
        for binder in binders:
            due = [at for at, (term, _, sight) in enumerate(rows) if term[0] == "name" and sight[term[1]][1] == binder]
            self.assertEqual(places_of(tower, f, binder), due)
        return len(rows)

    def check_fits(self, ahead, tongue, row, fits):
        """What fits begins a whole text of a term that is let by, and the names are those of the kind due."""
        term, kind, sight = row
        known = tuple([(x, due) for x, due, _ in sight])
        names = [word for word in fits if word.islower() and "." not in word]
        self.assertEqual(names, [x for x, due in known if due == kind])
        self.assertEqual(fits, tuple(sorted(set(fits))))
        self.assertIn(term[2] if term[0] == "use" else term[1], fits)
        for word in fits:
            text = whole_text(ahead, tongue, known, kind, (word,))
            found = read_term(ahead, tongue, known, kind, text)
            self.assertIs(look_term(ahead, tongue, known, kind, found), True)


class RefusedTest(SightTest):
    def test_no_function(self):
        for f in ("", "mid", "mid.none", "none.inc", "duo.LIT", "mid.inc.inc", "far.none", "MID.inc", "mid.inc "):
            for tell in ALL:
                self.refused(NoFunction, {"f": f}, tell, TOWER, f, 0)
            self.refused(NoFunction, {"f": f}, places_of, TOWER, f, PX)

    def test_no_body(self):
        for f in ("far.off", "far.all"):
            for tell in ALL:
                self.refused(NoBody, {"f": f}, tell, TOWER, f, 0)
            self.refused(NoBody, {"f": f}, places_of, TOWER, f, PX)
        faces = (DUO, face_of(MID))
        self.refused(NoBody, {"f": "mid.inc"}, fits_at, faces, "mid.inc", 0)

    def test_handed_in_stays(self):
        tower = self.tower(BODY)
        for at in range(11):
            first = [tell(tower, "p.f", at) for tell in (kind_at, sight_at, fits_at)]
            self.assertEqual([tell(tower, "p.f", at) for tell in (kind_at, sight_at, fits_at)], first)
        self.assertEqual(tower, with_body(BODY))
        self.assertEqual(function_of(tower, "p.f")[3], BODY)


if __name__ == "__main__":
    unittest.main()
