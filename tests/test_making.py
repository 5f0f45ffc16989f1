import random
import unittest

from tests.chance import Chance
from tests.plainly import Plain, all_parts, bare, row_of
from tests.refusals import RefusalTest
from tests.samples import (
    LIB,
    MID,
    REST,
    TOWER,
    call,
    ground,
    hole,
    let,
    lit,
    made,
    name,
    nested,
    num,
    own,
    plus,
    times,
    use,
)
from tests.tongues_made import FAR, LAG, LIT, LOW, NAME, NUM, form, function, part, term, tongue
from tonguetower.errors import TooBig, TowerError, Unmade
from tonguetower.laying import MAKING, PARTS, laid
from tonguetower.making import made_part
from tonguetower.names import are_alike
from tonguetower.terms import parts
from tonguetower.towers import face_of, look_tower

X = name("x")
ONE = (("x", "n"),)
NONE = (-1, False, ())


def t(head, *things):
    return use("t", head, *things)


def u(head, *things):
    return use("u", head, *things)


FORMS = (
    form("ID", [term()], hole(0)),
    form("TW", [term()], plus(hole(0), hole(0))),
    form("DROP", [term(), term()], hole(1)),
    form("SET", [NAME, term(), term(0)], let(own(0), hole(0), hole(1))),
    form("N", [LIT], num(lit(0))),
    form("SAME", [term()], call("low.same", hole(0))),
    form("REP", [LIT, term()], times(lit(0), hole(0), call("low.same", REST))),
    form("BAD", [LIT], times(lit(0), num(0), plus(num(1), REST))),
    form("MADE", [LIT], num(made("low.div", lit(0)))),
    form("SLOW", [LIT], num(made("lag.slow", lit(0), 999))),
    form("FACE", [], num(made("far.one", 1))),
)
E = part("e", "t", function("e", ONE, X))
HIGH = (
    form("ID", [term()], t("ID", hole(0))),
    form("SAME", [term()], t("TW", t("SAME", hole(0)))),
    form("CALL", [term()], t("TW", call("e.e", hole(0)))),
)
AHEAD = (LOW, LAG, FAR, tongue(*FORMS), E, tongue(*HIGH, called="u", below="t", meaning="n"))


def with_part(*functions, tongue_of="t", ahead=AHEAD):
    return (*ahead, part("p", tongue_of, *functions))


def call_same(inner):
    return call("low.same", inner)


class MarksTest(RefusalTest):
    def check(self, body, due_ground, *marks, tongue_of="t"):
        """What the function p.f with a body comes to, and the marks of its parts."""
        tower = with_part(function("f", ONE, body), tongue_of=tongue_of)
        self.assertIs(look_tower(tower), True)
        told = made_part(tower, "p")
        self.assertEqual(told[:3], ("made", "p", tongue_of))
        [(f, params, term_told, marks_told)] = told[3]
        self.assertEqual((f, params), ("f", ONE))
        self.assertTrue(are_alike(tower, term_told, due_ground), term_told)
        self.assertEqual(marks_told, marks)
        self.assertTrue(are_alike(tower, term_told, laid(tower, body)))

    def test_uses_of_the_ground(self):
        body = plus(X, let("a", num(3), ground("IF", name("a"), X, num(4))))
        marks = [(0, False, (0,)), NONE, (2, False, (2,)), (3, False, (3,)), (4, False, (4,)), NONE, NONE]
        p = part("p", "ground", function("f", NUM, body, "num"))
        self.assertEqual(made_part((p,), "p"), ("made", "p", "ground", (("f", NUM, body, (*marks, (7, False, (7,)))),)))

    def test_a_body_that_is_a_name(self):
        self.check(X, X, NONE)

    def test_a_body_that_is_a_call(self):
        self.check(call("e.e", X), call("e.e", X), NONE, NONE)
        self.check(call("e.e", t("N", 4)), call("e.e", num(4)), NONE, (1, False, (1,)))

    def test_uses_that_come_to_names_and_calls(self):
        self.check(t("ID", X), X, (-1, False, (0,)))
        self.check(t("ID", call("e.e", X)), call("e.e", X), (-1, False, (0,)), NONE)
        self.check(t("TW", t("ID", X)), plus(X, X), (0, False, (0,)), (-1, False, (1,)), (-1, False, (1,)))

    def test_several_uses_that_begin_at_one_part(self):
        self.check(t("ID", t("ID", X)), X, (-1, False, (0, 1)))
        self.check(t("ID", t("DROP", X, t("N", 3))), num(3), (3, False, (0, 1, 3)))
        self.check(t("DROP", t("TW", X), t("ID", t("ID", t("ID", X)))), X, (-1, False, (0, 3, 4, 5)))
        self.check(t("ID", t("ID", call("e.e", t("ID", X)))), call("e.e", X), (-1, False, (0, 1)), (-1, False, (3,)))

    def test_what_is_written_twice_or_not_at_all(self):
        row = [(0, False, (0,)), (1, False, (1,)), NONE, NONE, (1, False, (1,)), NONE, NONE]
        self.check(t("TW", t("TW", X)), plus(plus(X, X), plus(X, X)), *row)
        self.check(t("DROP", t("BAD", 12), X), X, (-1, False, (0,)))

    def test_calls_that_a_meaning_makes(self):
        self.check(t("SAME", X), call_same(X), (0, True, (0,)), NONE)
        self.check(t("ID", t("SAME", t("N", 1))), call_same(num(1)), (1, True, (0, 1)), (2, False, (2,)))
        twice = [(0, True, (0,)), (0, True, ()), (0, True, ()), (1, True, (1,)), NONE]
        self.check(t("REP", 3, t("SAME", X)), call_same(call_same(call_same(call_same(X)))), *twice)
        self.check(t("REP", 0, X), X, (-1, False, (0,)))
        written_within = [(0, True, (0,)), NONE, (2, True, (2,)), NONE]
        self.check(t("SAME", call("e.e", t("SAME", X))), call_same(call("e.e", call_same(X))), *written_within)

    def test_calls_of_a_meaning_within_a_meaning(self):
        row = [(0, False, (0,)), (0, True, ()), NONE, (0, True, ()), NONE]
        self.check(u("SAME", X), plus(call_same(X), call_same(X)), *row, tongue_of="u")
        row = [(0, False, (0,)), (0, True, ()), (-1, False, (1,)), (0, True, ()), (-1, False, (1,))]
        self.check(u("CALL", u("ID", X)), plus(call("e.e", X), call("e.e", X)), *row, tongue_of="u")
        self.check(u("ID", u("ID", X)), X, (-1, False, (0, 1)), tongue_of="u")

    def test_names_that_meanings_make(self):
        marks = [(0, False, (0,)), (1, False, (1,)), (2, False, (2,)), NONE, NONE]
        self.check(t("SET", "a", t("N", 2), t("TW", name("a"))), let("b", num(2), plus(name("b"), name("b"))), *marks)

    def test_by_chance(self):
        told = {"made": 0, "refused": 0, "meant": 0, "twice": 0}
        for seed in range(500, 560):
            rng = random.Random(seed)
            tower = Chance(rng).good_tower()
            plain = Plain(tower)
            for item in [item for item in tower if item[0] == "part"]:
                for most in (PARTS, rng.randrange(1, 30)):
                    self.check_part(plain, item, most, told)
        self.assertGreater(min(told.values()), 30, told)

    def check_part(self, plain, item, most, told):
        rows = [plain.body_by(f"{item[1]}.{one[0]}", most) for one in item[3]]
        refused = [row for row in rows if isinstance(row, tuple)]
        found = row_of(made_part, plain.tower, item[1], most=most)
        if refused:
            self.assertEqual(found, refused[0])
            told["refused"] += 1
            return
        told["made"] += 1
        self.assertEqual(found[:3], ("made", item[1], item[2]))
        self.assertEqual([one[:2] for one in found[3]], [one[:2] for one in item[3]])
        for (_, _, ground_told, marks), body in zip(found[3], rows):
            self.assertTrue(are_alike(plain.tower, ground_told, bare(body)))
            due = [mark_of(one) for one in all_parts(body)]
            self.assertEqual(list(marks), due)
            told["meant"] += len([one for one in due if one[1]])
            told["twice"] += len([one for one in due if len(one[2]) > 1])


def mark_of(one):
    """The mark of a part that was laid down plainly."""
    meant = one.sort == "call" and one.meant
    return (one.at if one.sort == "use" or meant else -1, meant, tuple(one.begins))


class WholeTest(RefusalTest):
    def test_parts_of_a_tower(self):
        inc = plus(X, num(1))
        marks = ((0, False, (0,)), NONE, (2, False, (2,)))
        functions = (("inc", (("x", "n"),), inc, marks), ("is", (("x", "n"), ("y", "b")), name("y"), (NONE,)))
        self.assertEqual(made_part(TOWER, "mid"), ("made", "mid", "duo", functions))
        self.assertEqual(made_part(tower=TOWER, name="mid", most=3), ("made", "mid", "duo", functions))
        zero = ("zero", (), num(0), ((0, False, (0,)),))
        self.assertEqual(made_part(TOWER, "lib")[3][0], zero)
        self.assertEqual([one[0] for one in made_part(TOWER, "lib")[3]], ["zero", "one", "two"])

    def test_no_functions(self):
        self.assertEqual(made_part((("part", "p", "ground", ()),), "p"), ("made", "p", "ground", ()))

    def test_tuples_throughout(self):
        told = made_part(TOWER, "mid")
        todo = [told]
        while todo:
            thing = todo.pop()
            self.assertIn(type(thing), (tuple, str, int, bool))
            if isinstance(thing, tuple):
                todo.extend(thing)

    def test_unchanged_and_again(self):
        tower = with_part(function("f", ONE, t("SET", "a", X, t("SAME", name("a")))))
        first = made_part(tower, "p")
        made_part(TOWER, "mid")
        self.assertEqual(made_part(tower, "p"), first)
        self.assertEqual(tower, with_part(function("f", ONE, t("SET", "a", X, t("SAME", name("a"))))))

    def test_most_by_name_alone(self):
        with self.assertRaises(TypeError):
            made_part(TOWER, "mid", 10)

    def test_one_mark_for_each_part(self):
        tower = with_part(function("f", ONE, nested(7, X, lambda inner, at: t("TW", inner))))
        [(_, _, ground_told, marks)] = made_part(tower, "p")[3]
        self.assertEqual(len(marks), len(parts(ground_told)))
        self.assertEqual(len(marks), 255)


class RefusedTest(RefusalTest):
    def check(self, error, fields, *functions, most=PARTS, ahead=AHEAD):
        tower = with_part(*functions, ahead=ahead)
        self.assertIs(look_tower(tower), True)
        self.refused(error, fields, made_part, tower, "p", most=most)
        self.assertTrue(issubclass(error, TowerError))

    def test_the_first_function_that_cannot_be_laid_down(self):
        f, g = function("f", ONE, X), function("g", ONE, t("ID", t("BAD", 10)))
        h = function("h", ONE, t("MADE", 0))
        many = {"f": "p.g", "at": 1, "why": ("many",)}
        self.check(Unmade, many, f, g, h)
        self.check(Unmade, {"f": "p.h", "at": 0, "why": ("fault", "nought", "low.div", 0)}, f, h, g)
        self.check(Unmade, many, g, function("z", ONE, call("p.g", X)))
        self.check(Unmade, many, function("z", ONE, call("e.e", X)), g)

    def test_too_big_or_unmade(self):
        big = function("f", ONE, t("TW", X))
        bad = function("g", ONE, t("BAD", 10))
        many = {"f": "p.g", "at": 0, "why": ("many",)}
        self.check(TooBig, {"most": 2}, big, bad, most=2)
        self.check(Unmade, many, bad, big, most=2)
        self.check(Unmade, many, big, bad, most=3)
        # What a use comes to is reckoned ahead of the begin of its first part, here of one too many.
        many = {"f": "p.f", "at": 3, "why": ("many",)}
        self.check(Unmade, many, function("f", ONE, t("DROP", X, t("TW", t("BAD", 10)))), most=1)
        self.check(TooBig, {"most": 1}, function("f", ONE, t("TW", t("SAME", t("BAD", 10)))), most=1)

    def test_each_why(self):
        rows = [(t("SLOW", 999), ("long",)), (t("FACE"), ("face",)), (t("BAD", 999), ("many",))]
        for body, why in rows:
            self.check(Unmade, {"f": "p.f", "at": 0, "why": why}, function("f", ONE, body))
        lay = (LOW, tongue(*FORMS[:1], FORMS[7]), part("bad", "t", function("f", (), t("BAD", 10))))
        for body in (made("bad.f"), made("low.div", made("bad.f"))):
            high = tongue(form("A", [], t("ID", use("t", "BAD", body))), called="u", below="t", meaning="n")
            tower = (*lay, high, part("p", "u", function("f", (), u("A"))))
            self.assertIs(look_tower(tower), True)
            self.refused(Unmade, {"f": "p.f", "at": 0, "why": ("unmade",)}, made_part, tower, "p")

    def test_making_exactly_and_one_turn_more(self):
        self.assertEqual(MAKING, 5000)
        # slow takes 2 + 7 * 714 turns, slower one more.
        forms = [form("AS", [], num(made("lag.slow", 7, 712))), form("ONE", [], num(made("lag.slower", 7, 712)))]
        ahead = (LOW, LAG, tongue(*forms))
        self.assertEqual(made_part(with_part(function("f", (), t("AS")), ahead=ahead), "p")[3][0][2], num(1))
        fields = {"f": "p.f", "at": 0, "why": ("long",)}
        self.refused(Unmade, fields, made_part, with_part(function("f", (), t("ONE")), ahead=ahead), "p")

    def test_most_exactly_and_one_more(self):
        tower = with_part(function("f", ONE, t("TW", t("TW", X))))
        self.assertEqual(len(made_part(tower, "p", most=7)[3][0][3]), 7)
        for most in range(1, 7):
            self.refused(TooBig, {"most": most}, made_part, tower, "p", most=most)

    def test_most_by_default(self):
        self.assertEqual(PARTS, 3000)
        sizes = [9, 9, 9, 9, 9, 8, 7, 5]
        body = X
        for size in sizes:
            fat = nested(size - 1, X, lambda inner, at: t("TW", inner))
            body = t("SET", "a", fat, body)
        many = sum([2**size - 1 for size in sizes]) + len(sizes) + 1
        body = nested((3000 - many) // 2, body, lambda inner, at: t("SET", "a", X, inner))
        body = nested((3000 - many) % 2, body, lambda inner, at: t("SAME", inner))
        tower = with_part(function("f", ONE, body))
        self.assertEqual(len(made_part(tower, "p")[3][0][3]), 3000)
        tower = with_part(function("f", ONE, t("SAME", body)))
        self.refused(TooBig, {"most": 3000}, made_part, tower, "p")
        self.assertEqual(len(made_part(tower, "p", most=3001)[3][0][3]), 3001)

    def test_the_greatest_most(self):
        fat = nested(13, X, lambda inner, at: t("TW", inner))
        tower = with_part(function("f", ONE, fat))
        self.assertEqual(len(made_part(tower, "p", most=20000)[3][0][3]), 16383)
        tower = with_part(function("f", ONE, t("TW", fat)))
        self.refused(TooBig, {"most": 20000}, made_part, tower, "p", most=20000)

    def test_deep(self):
        deep = nested(40, X, lambda inner, at: t("SAME", inner))
        self.assertEqual(len(made_part(with_part(function("f", ONE, deep)), "p")[3][0][3]), 41)
        tower = with_part(function("f", ONE, t("SAME", deep)))
        self.refused(TooBig, {"most": 3000}, made_part, tower, "p")

    def test_what_runs_at_making_is_laid_down_by_parts(self):
        fat = nested(8, name("x"), lambda inner, at: plus(inner, inner))
        low = part("low", "ground", function("div", NUM, fat, "num"))
        ahead = (low, tongue(FORMS[8]))
        tower = with_part(function("f", (), t("MADE", 3)), ahead=ahead)
        self.assertEqual(made_part(tower, "p", most=1)[3][0][2], num(3 * 256))


class FacesTest(RefusalTest):
    def test_other_parts_by_their_faces(self):
        body = t("SAME", t("TW", call("e.e", call("p.f", X))))
        functions = (function("f", ONE, t("MADE", 5)), function("g", ONE, body))
        tower = with_part(*functions)
        self.assertIs(look_tower(tower), True)
        faces = tuple([face_of(item) if item[1] in ("e", "lag") else item for item in tower])
        self.assertEqual(made_part(faces, "p"), made_part(tower, "p"))
        calls = with_part(function("f", ONE, t("SAME", call("e.e", X))))
        faces = tuple([face_of(item) if item[1] in ("e", "lag", "low") else item for item in calls])
        self.assertIs(look_tower(faces), True)
        self.assertEqual(made_part(faces, "p"), made_part(calls, "p"))

    def test_what_runs_at_making_is_needed_whole(self):
        tower = with_part(function("f", ONE, X), function("g", ONE, t("ID", t("MADE", 5))))
        faces = tuple([face_of(item) if item[1] == "low" else item for item in tower])
        self.assertEqual(made_part(tower, "p")[3][1][2], num(2))
        self.refused(Unmade, {"f": "p.g", "at": 1, "why": ("face",)}, made_part, faces, "p")
        far = part("top", "ground", function("f", (), call("low.div", num(5)), "num"))
        ahead = (face_of(LOW), far, tongue(form("A", [], num(made("top.f")))))
        fields = {"f": "p.f", "at": 0, "why": ("face",)}
        self.refused(Unmade, fields, made_part, with_part(function("f", (), t("A")), ahead=ahead), "p")

    def test_faces_by_chance(self):
        told = 0
        for seed in range(600, 640):
            tower = Chance(random.Random(seed), makes=False).good_tower()
            for item in [item for item in tower if item[0] == "part"]:
                rows = [other if other == item or other[0] == "tongue" else face_of(other) for other in tower]
                found = row_of(made_part, tuple(rows), item[1])
                self.assertEqual(found, row_of(made_part, tower, item[1]))
                told += found[0] == "made"
        self.assertGreater(told, 60)

    def test_behind_the_part(self):
        tower = (LIB, TOWER[0], MID)
        self.assertEqual(made_part(tower, "lib"), made_part(TOWER, "lib"))
        self.assertEqual(made_part((TOWER[0], MID), "mid"), made_part(TOWER, "mid"))


if __name__ == "__main__":
    unittest.main()
