import random
import unittest

from tests.chance import Chance
from tests.plainly import Plain, row_of
from tests.samples import (
    REST,
    TOWER,
    call,
    choose,
    ground,
    hole,
    let,
    lit,
    loop,
    made,
    name,
    nested,
    num,
    own,
    plus,
    times,
    use,
)
from tests.tongues_made import FAR, LAG, LIT, LOW, NAME, NUM, TWO, form, function, part, term, tongue
from tonguetower.errors import NoBody, NoFunction, TooBig, TooLong, TowerError, Unmade
from tonguetower.need import ran_by_need
from tonguetower.runs import MOST, ran
from tonguetower.towers import face_of, look_tower

X, Y = name("x"), name("y")


def t(head, *things):
    return use("t", head, *things)


FORMS = (
    form("BAD", [LIT], times(lit(0), num(0), plus(num(1), REST))),
    form("IF", [term(), term(), term()], ground("IF", hole(0), hole(1), hole(2))),
    form("SET", [NAME, term(), term(0)], let(own(0), hole(0), hole(1))),
    form("TW", [term()], plus(hole(0), hole(0))),
    form("MADE", [LIT], num(made("low.div", lit(0)))),
    form("DIV", [term(), term()], ground("/", hole(0), hole(1))),
)


class NeedTest(unittest.TestCase):
    def tower(self, body, *functions):
        p = part("p", "t", *functions, function("f", (("x", "n"), ("y", "n")), body))
        tower = (LOW, LAG, FAR, tongue(*FORMS), ("face", "q", "t", (("f", ("n",), "n"),)), p)
        self.assertIs(look_tower(tower), True)
        return tower

    def same(self, body, numbers, *functions):
        """What is told where laying down ahead isn't refused."""
        tower = self.tower(body, *functions)
        told = ran_by_need(tower, "p.f", numbers)
        self.assertEqual(told, ran(tower, "p.f", numbers))
        return told

    def refused(self, body, numbers, error, *functions, **fields):
        tower = self.tower(body, *functions)
        with self.assertRaises(error) as caught:
            ran_by_need(tower, "p.f", numbers)
        self.assertEqual(vars(caught.exception), fields)
        self.assertIsInstance(caught.exception, TowerError)
        with self.assertRaises((Unmade, NoBody)):
            ran(tower, "p.f", numbers)

    def passes(self, body, numbers, due, *functions):
        """What is told where laying down ahead is refused."""
        tower = self.tower(body, *functions)
        with self.assertRaises((Unmade, NoBody, TooBig)):
            ran(tower, "p.f", numbers)
        self.assertEqual(ran_by_need(tower, "p.f", numbers), due)

    def test_what_ran_tells(self):
        self.assertEqual(self.same(t("IF", X, t("BAD", 3), t("TW", Y)), (1, 5)), ("told", 3, 8))
        self.assertEqual(self.same(t("IF", X, t("BAD", 3), t("TW", Y)), (0, 5)), ("told", 10, 2))
        self.assertEqual(
            self.same(t("SET", "a", t("TW", X), t("SET", "x", name("a"), t("TW", X))), (3, 4))[:2], ("told", 12)
        )
        self.assertEqual(self.same(t("TW", t("DIV", X, Y)), (7, 2))[:2], ("told", 6))
        self.assertEqual(self.same(t("TW", t("DIV", X, Y)), (7, 0)), ("fault", "bad", "p.f", 1, 2))
        self.assertEqual(self.same(X, [7, 0]), ("told", 7, 0))
        self.assertEqual(self.same(t("MADE", 5), [7, 0]), ("told", 2, 1))

    def test_the_ground(self):
        body = plus(let("x", plus(X, Y), loop(X, "a", Y, plus(name("a"), X))), X)
        tower = (part("p", "ground", function("f", TWO, body, "num")),)
        self.assertEqual(ran_by_need(tower, "p.f", (3, 4)), ran(tower, "p.f", (3, 4)))
        self.assertEqual(ran_by_need(tower, "p.f", (3, 4))[:2], ("told", 4 + 7 * 7 + 3))
        tower = (part("p", "ground", function("f", TWO, ground("NEED", ground("<", X, Y), num(1)), "num")),)
        self.assertEqual(ran_by_need(tower, "p.f", (4, 3)), ("fault", "need", "p.f", 0, 2))

    def test_what_it_does_not_come_to_is_not_refused(self):
        self.passes(t("IF", X, t("BAD", 10), Y), (0, 5), ("told", 5, 1))
        self.passes(t("IF", X, t("MADE", 0), Y), (0, 5), ("told", 5, 1))
        self.passes(t("IF", X, call("q.f", X), Y), (0, 5), ("told", 5, 1))
        bad = function("g", (), t("BAD", 10))
        self.passes(t("IF", X, call("p.g"), Y), (0, 5), ("told", 5, 1), bad)
        # The fault comes ahead of what can't be laid down.
        self.passes(t("TW", t("DIV", t("DIV", X, Y), t("BAD", 10))), (1, 0), ("fault", "bad", "p.f", 2, 3))

    def test_what_it_comes_to_is_refused(self):
        self.refused(t("IF", X, t("BAD", 10), Y), (1, 5), Unmade, f="p.f", at=2, why=("many",))
        why = ("fault", "nought", "low.div", 0)
        self.refused(t("IF", X, t("BAD", 3), t("MADE", 0)), (0, 5), Unmade, f="p.f", at=3, why=why)
        self.refused(t("IF", X, call("q.f", X), Y), (1, 5), NoBody, f="q.f")
        bad = function("g", (), t("TW", t("BAD", 10)))
        self.refused(t("IF", X, call("p.g"), Y), (1, 5), Unmade, bad, f="p.g", at=1, why=("many",))
        # Of the two the one that it comes to, not the one that is laid down first.
        self.refused(t("IF", X, t("BAD", 10), t("MADE", 0)), (0, 5), Unmade, f="p.f", at=3, why=why)
        self.refused(t("TW", t("IF", X, t("MADE", 0), t("BAD", 10))), (0, 5), Unmade, f="p.f", at=4, why=("many",))

    def test_arguments_ahead_of_a_face(self):
        self.refused(call("q.f", t("BAD", 11)), (1, 5), Unmade, f="p.f", at=1, why=("many",))
        self.passes(call("q.f", t("DIV", X, Y)), (1, 0), ("fault", "bad", "p.f", 1, 2))

    def test_all_numbers_of_a_use_at_once(self):
        both = form("BOTH", [term()], ground("IF", hole(0), num(made("low.div", 0)), num(1)))
        left = form("LEFT", [LIT], choose(lit(0), num(1), num(made("low.div", 0))))
        for body, due in ((t("BOTH", X), None), (t("LEFT", 0), ("told", 1, 1)), (t("LEFT", 1), None)):
            tower = (LOW, tongue(both, left), part("p", "t", function("f", (("x", "n"),), body)))
            if due:
                self.assertEqual(ran_by_need(tower, "p.f", [0]), due)
                continue
            with self.assertRaises(Unmade) as caught:
                ran_by_need(tower, "p.f", [0])
            self.assertEqual(caught.exception.why, ("fault", "nought", "low.div", 0))

    def test_too_long(self):
        tower = self.tower(t("IF", X, t("BAD", 3), t("TW", Y)))
        self.assertEqual(ran_by_need(tower, "p.f", (1, 5), most=8), ("told", 3, 8))
        with self.assertRaises(TooLong) as caught:
            ran_by_need(tower, "p.f", (1, 5), most=7)
        self.assertEqual(caught.exception.most, 7)
        body = loop(name("x"), "a", num(1), loop(name("y"), "b", num(1), num(2)))
        tower = (part("p", "ground", function("f", TWO, body, "num")),)
        with self.assertRaises(TooLong) as caught:
            ran_by_need(tower, "p.f", (999, 999))
        self.assertEqual(caught.exception.most, MOST)
        self.assertEqual(ran_by_need(tower, "p.f", (18, 999)), ("told", 2, 2 + 18 * 1001))

    def test_too_long_ahead_of_a_refusal(self):
        tower = self.tower(t("TW", t("TW", t("IF", X, Y, t("BAD", 10)))))
        for most, error in ((1, TooLong), (2, TooLong), (3, Unmade)):
            with self.assertRaises(error):
                ran_by_need(tower, "p.f", (0, 0), most=most)

    def test_in_loops(self):
        rep = form("REP", [term(), NAME, term(), term(0)], loop(hole(0), own(0), hole(1), hole(2)))
        up = form("UP", [term()], let("a", hole(0), plus(name("a"), num(1))))
        p = part("p", "t", function("f", (("x", "n"),), t("REP", X, "a", X, t("UP", t("UP", name("a"))))))
        tower = (tongue(rep, up), p)
        self.assertEqual(ran_by_need(tower, "p.f", [999]), ran(tower, "p.f", [999]))
        self.assertEqual(ran_by_need(tower, "p.f", [999])[:2], ("told", (999 + 2 * 999) % 1000))

    def test_a_fault_by_a_call_that_a_meaning_made(self):
        low = form("LOW", [term()], call("low.div", hole(0)))
        p = part("p", "t", function("f", (("x", "n"),), t("TW", t("LOW", X))))
        tower = (LOW, tongue(low, FORMS[3]), p)
        self.assertEqual(ran_by_need(tower, "p.f", [0]), ("fault", "bad", "p.f", 1, 4))
        self.assertEqual(ran_by_need(tower, "p.f", [2]), ran(tower, "p.f", [2]))

    def test_names_that_are_not_there_or_of_a_face(self):
        for f in ("", "mid", "mid.none", "none.inc", "duo.LIT"):
            with self.assertRaises(NoFunction) as caught:
                ran_by_need(TOWER, f, [])
            self.assertEqual(caught.exception.f, f)
        with self.assertRaises(NoBody) as caught:
            ran_by_need(TOWER, "far.off", [1])
        self.assertEqual(caught.exception.f, "far.off")

    def test_by_name_again_and_unchanged(self):
        numbers = [5]
        for _ in range(2):
            self.assertEqual(ran_by_need(tower=TOWER, f="mid.inc", args=numbers, most=2), ("told", 6, 2))
        self.assertEqual(numbers, [5])
        with self.assertRaises(TypeError):
            ran_by_need(TOWER, "mid.inc", [5], 100)

    def test_deep_bodies(self):
        tower = (tongue(FORMS[3], form("SAME", [term()], hole(0))), None)
        body = nested(1200, X, lambda inner, at: t("SAME", inner))
        tower = (tower[0], part("p", "t", function("f", (("x", "n"),), body)))
        self.assertEqual(ran_by_need(tower, "p.f", [4]), ("told", 4, 0))
        self.assertEqual(ran(tower, "p.f", [4]), ("told", 4, 0))


class ChanceTest(unittest.TestCase):
    """Runs by need tell what ran tells; where that is refused, what is found plainly."""

    def test_any_towers(self):
        told = {"same": 0, "refused": 0, "more": 0}
        for seed in range(200, 240):
            chance = Chance(random.Random(seed), makes=seed % 2 > 0)
            tower = chance.good_tower()
            if seed % 3 == 0:
                tower = tuple([face_of(item) if item[1] == "p" else item for item in tower])
            plain = Plain(tower)
            for item in [item for item in tower if item[0] == "part"]:
                for one in item[3]:
                    self.check(chance.chance, plain, f"{item[1]}.{one[0]}", len(one[1]), told)
        self.assertGreater(told["same"], 300)
        self.assertGreater(told["refused"], 40)
        self.assertGreater(told["more"], 3)

    def check(self, rng, plain, f, many, told):
        for most in (MOST, rng.randrange(1, 30)):
            numbers = [rng.choice([0, 1, 2, 5, 999]) for _ in range(many)]
            due = row_of(ran, plain.tower, f, numbers, most=most)
            if due[0] == "big":
                continue
            found = row_of(ran_by_need, plain.tower, f, numbers, most=most)
            self.assertEqual(found, plain.ran_seen(f, numbers, most, need=True)[0])
            if due[0] in ("told", "fault", "long"):
                self.assertEqual(found, due)
                told["same"] += 1
            else:
                told["refused" if found[0] in ("unmade", "face") else "more"] += 1


class FaceTest(unittest.TestCase):
    def test_faces_in_the_place_of_parts(self):
        user = part("p", "ground", function("f", NUM, ground("IF", X, call("low.div", X), num(4)), "num"))
        face = ("face", "low", "ground", tuple([(one[0], tuple(["num"] * len(one[1])), "num") for one in LOW[3]]))
        self.assertEqual(ran_by_need((LOW, user), "p.f", [5]), ("told", 2, 4))
        self.assertEqual(ran_by_need((face, user), "p.f", [0]), ("told", 4, 2))
        with self.assertRaises(NoBody) as caught:
            ran_by_need((face, user), "p.f", [5])
        self.assertEqual(caught.exception.f, "low.div")


if __name__ == "__main__":
    unittest.main()
