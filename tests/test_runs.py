import random
import unittest

from tests.chance import Chance
from tests.plainly import Plain, row_of
from tests.samples import (
    REST,
    TOWER,
    call,
    ground,
    hole,
    let,
    letters,
    lit,
    loop,
    made,
    name,
    nested,
    num,
    own,
    plus,
    times,
    use,
)
from tests.tongues_made import FAR, LAG, LIT, LOW, NAME, NUM, TWO, form, function, part, term, tongue
from tonguetower.errors import NoBody, NoFunction, TooBig, TooLong, TowerError, Unmade
from tonguetower.runs import MOST, ran, seen
from tonguetower.terms import parts
from tonguetower.towers import face_of, look_tower

X, Y = name("x"), name("y")


def t(head, *things):
    return use("t", head, *things)


def u(head, *things):
    return use("u", head, *things)


def on_ground(body, params=TWO, ahead=()):
    """A tower with a function p.f in the ground."""
    return (*ahead, part("p", "ground", function("f", params, body, "num")))


class GroundTest(unittest.TestCase):
    def check(self, body, numbers, number, turns=None):
        tower = on_ground(body)
        self.assertIs(look_tower(tower), True)
        told = ran(tower, "p.f", numbers)
        self.assertEqual(told[:2], ("told", number))
        if turns is not None:
            self.assertEqual(told, ("told", number, turns))

    def fault(self, body, numbers, fault, at, turns):
        told = ran(on_ground(body), "p.f", numbers)
        self.assertEqual(told, ("fault", fault, "p.f", at, turns))

    def test_names_and_numbers(self):
        self.check(X, (5, 6), 5, 0)
        self.check(Y, [5, 6], 6, 0)
        self.check(num(0), (5, 6), 0, 1)
        self.check(num(999), (5, 6), 999, 1)

    def test_each_operation(self):
        rows = {
            "+": [(1, 2, 3), (999, 1, 0), (999, 999, 998), (500, 500, 0), (0, 0, 0)],
            "-": [(5, 3, 2), (3, 5, 998), (0, 999, 1), (0, 0, 0), (999, 999, 0)],
            "*": [(3, 4, 12), (999, 999, 1), (500, 2, 0), (0, 999, 0), (40, 26, 40)],
            "/": [(7, 2, 3), (999, 999, 1), (2, 7, 0), (0, 5, 0), (999, 1, 999), (998, 999, 0)],
            "<": [(1, 2, 1), (2, 2, 0), (3, 2, 0), (998, 999, 1), (999, 0, 0)],
            "=": [(1, 2, 0), (2, 2, 1), (0, 0, 1), (999, 999, 1), (999, 0, 0)],
        }
        for head, row in rows.items():
            for one, other, number in row:
                self.check(ground(head, X, Y), (one, other), number, 1)

    def test_by_nought(self):
        for number in (0, 1, 999):
            self.fault(ground("/", X, Y), (number, 0), "nought", 0, 1)
        self.fault(plus(num(1), ground("/", X, num(0))), (1, 1), "nought", 2, 4)

    def test_if(self):
        body = ground("IF", X, num(7), num(8))
        self.check(body, (1, 0), 7, 2)
        self.check(body, (999, 0), 7, 2)
        self.check(body, (0, 0), 8, 2)
        bad = ground("/", num(1), num(0))
        self.check(ground("IF", X, num(7), bad), (1, 0), 7)
        self.fault(ground("IF", X, num(7), bad), (0, 0), "nought", 3, 4)
        self.fault(ground("IF", bad, bad, bad), (0, 0), "nought", 1, 4)

    def test_need(self):
        body = ground("NEED", X, plus(X, Y))
        self.check(body, (1, 5), 6, 2)
        self.check(body, (999, 5), 4, 2)
        self.fault(body, (0, 5), "need", 0, 1)
        self.fault(ground("NEED", X, ground("/", Y, num(0))), (0, 5), "need", 0, 1)
        self.fault(ground("NEED", X, ground("/", Y, num(0))), (1, 5), "nought", 2, 3)

    def test_let(self):
        self.check(let("a", plus(X, Y), plus(name("a"), name("a"))), (3, 4), 14, 3)
        self.check(let("x", Y, X), (3, 4), 4, 1)
        self.check(plus(let("x", Y, let("x", plus(X, X), X)), X), (3, 4), 11)
        self.check(let("x", let("x", Y, plus(X, X)), let("y", X, plus(X, Y))), (3, 4), 16)
        self.fault(let("a", ground("/", X, num(0)), ground("NEED", num(0), X)), (1, 1), "nought", 1, 3)

    def test_loop(self):
        body = loop(X, "a", Y, plus(name("a"), num(2)))
        self.check(body, (0, 5), 5, 1)
        self.check(body, (1, 5), 7, 3)
        self.check(body, (10, 5), 25, 21)
        self.check(body, (999, 5), 3, 1999)
        self.check(loop(X, "x", Y, plus(X, X)), (3, 1), 8)
        self.check(loop(X, "a", Y, X), (3, 1), 3, 1)
        self.check(loop(X, "a", loop(Y, "a", num(1), plus(name("a"), num(1))), plus(name("a"), name("a"))), (2, 3), 16)
        self.fault(loop(X, "a", num(0), ground("/", num(1), name("a"))), (3, 0), "nought", 3, 4)
        self.check(loop(num(0), "a", X, ground("/", X, num(0))), (8, 0), 8)
        self.fault(loop(num(0), "a", ground("/", X, num(0)), X), (8, 0), "nought", 2, 4)

    def test_from_left_to_right(self):
        one = ground("NEED", num(0), num(1))
        other = ground("/", num(1), num(0))
        for head in ("+", "-", "*", "/", "<", "="):
            self.fault(ground(head, one, other), (0, 0), "need", 1, 3)
            self.fault(ground(head, other, one), (0, 0), "nought", 1, 4)
        self.fault(loop(one, "a", other, X), (0, 0), "need", 1, 3)
        self.fault(loop(num(0), "a", other, one), (0, 0), "nought", 2, 5)
        self.fault(loop(num(1), "a", num(1), plus(one, other)), (0, 0), "need", 4, 6)

    def test_arguments_first(self):
        tower = on_ground(call("low.sum", ground("NEED", X, num(1)), ground("/", num(1), Y)), ahead=(LOW,))
        self.assertEqual(ran(tower, "p.f", (0, 0)), ("fault", "need", "p.f", 1, 2))
        self.assertEqual(ran(tower, "p.f", (1, 0)), ("fault", "nought", "p.f", 4, 5))
        self.assertEqual(ran(tower, "p.f", (1, 1)), ("told", 2, 6))

    def test_turns_one_by_one(self):
        tower = on_ground(
            plus(call("low.sum", X, num(2)), let("a", num(3), ground("IF", name("a"), Y, num(9)))), ahead=(LOW,)
        )
        # +, the call, NUM 2, the + called, LET, NUM 3, IF.
        self.assertEqual(ran(tower, "p.f", (1, 5)), ("told", 8, 7))
        for most in range(1, 7):
            with self.assertRaises(TooLong) as caught:
                ran(tower, "p.f", (1, 5), most=most)
            self.assertEqual(caught.exception.most, most)
            self.assertIsInstance(caught.exception, TowerError)
        self.assertEqual(ran(tower, "p.f", (1, 5), most=7), ("told", 8, 7))
        self.assertEqual(ran(on_ground(X), "p.f", (1, 5), most=1), ("told", 1, 0))

    def test_most_by_default(self):
        self.assertEqual(MOST, 20000)
        body = loop(num(999), "a", num(1), loop(X, "b", num(1), plus(name("b"), Y)))
        # 3 ahead, in each of 999 turns LOOP, NUM and x.
        self.assertEqual(ran(on_ground(body), "p.f", (18, 1))[2], 3 + 999 * 20)
        rest = 20000 - (3 + 999 * 20)
        more = nested(rest, body, lambda inner, at: let("q", X, inner))
        self.assertEqual(ran(on_ground(more), "p.f", (18, 1))[2], 20000)
        for tell in (ran, seen):
            with self.assertRaises(TooLong) as caught:
                tell(on_ground(let("q", X, more)), "p.f", (18, 1))
            self.assertEqual(caught.exception.most, 20000)
        with self.assertRaises(TooLong):
            ran(on_ground(loop(X, "a", num(1), loop(X, "b", num(1), X))), "p.f", (999, 0), most=1000)

    def test_a_fault_or_too_long(self):
        tower = on_ground(plus(num(1), ground("/", num(1), num(0))))
        self.assertEqual(ran(tower, "p.f", (1, 1), most=5), ("fault", "nought", "p.f", 2, 5))
        with self.assertRaises(TooLong):
            ran(tower, "p.f", (1, 1), most=4)

    def test_deep_bodies_and_calls(self):
        deep = nested(40, X, lambda inner, at: plus(num(1), inner))
        functions = [function(letters(0), NUM, deep, "num")]
        for at in range(1, 60):
            body = nested(39, call(f"p.{letters(at - 1)}", X), lambda inner, k: plus(inner, num(1)))
            functions.append(function(letters(at), NUM, body, "num"))
        tower = (part("p", "ground", *functions),)
        self.assertIs(look_tower(tower), True)
        told = ran(tower, f"p.{letters(59)}", [5])
        self.assertEqual(told, ("told", (5 + 40 + 59 * 39) % 1000, 80 + 59 * (78 + 1)))


class CalledTest(unittest.TestCase):
    def test_functions_by_their_names(self):
        self.assertEqual(ran(tower=TOWER, f="mid.inc", args=[5], most=100), ("told", 6, 2))
        self.assertEqual(ran(TOWER, "mid.inc", (999,)), ("told", 0, 2))
        self.assertEqual(ran(TOWER, "lib.zero", ()), ("told", 0, 1))
        self.assertEqual(ran(TOWER, "lib.two", [998, 3]), ("told", 1, 1))
        self.assertEqual(seen(tower=TOWER, f="mid.inc", args=[5], most=100), [("mid.inc", 0), ("mid.inc", 2)])
        with self.assertRaises(TypeError):
            ran(TOWER, "mid.inc", [5], 100)

    def test_names_that_are_not_there(self):
        for f in ("", "mid", "mid.none", "none.inc", "duo.LIT", "mid.inc.inc", "far.none"):
            for tell in (ran, seen):
                with self.assertRaises(NoFunction) as caught:
                    tell(TOWER, f, [])
                self.assertEqual(caught.exception.f, f)

    def test_of_a_face(self):
        for tell in (ran, seen):
            with self.assertRaises(NoBody) as caught:
                tell(TOWER, "far.off", [1])
            self.assertEqual(caught.exception.f, "far.off")

    def test_a_face_that_would_have_to_be_laid_down(self):
        body = ground("IF", X, num(1), call("far.one", num(1)))
        tower = on_ground(body, NUM, (FAR,))
        for tell in (ran, seen):
            with self.assertRaises(NoBody) as caught:
                tell(tower, "p.f", [1])
            self.assertEqual(caught.exception.f, "far.one")
        tower = (LOW, face_of(LAG), part("p", "ground", function("f", NUM, call("low.same", X), "num")))
        self.assertEqual(ran(tower, "p.f", [3]), ("told", 3, 1))

    def test_what_was_handed_in_stays(self):
        numbers = [1, 2]
        tower = on_ground(let("x", plus(X, Y), X))
        first = ran(tower, "p.f", numbers)
        self.assertEqual(numbers, [1, 2])
        seen(tower, "p.f", numbers).append("more")
        self.assertEqual(seen(tower, "p.f", numbers), [("p.f", 0), ("p.f", 1)])
        self.assertEqual(ran(tower, "p.f", numbers), first)
        self.assertEqual(tower, on_ground(let("x", plus(X, Y), X)))


def bad(number=10):
    return form("BAD", [], times(number, num(0), num(1)))


class AheadTest(unittest.TestCase):
    """What is laid down ahead of a run, in which order, and how it is refused."""

    def check(self, tower, called, numbers, error, **fields):
        self.assertIs(look_tower(tower), True)
        for tell in (ran, seen):
            with self.assertRaises(error) as caught:
                tell(tower, called, numbers)
            self.assertEqual(vars(caught.exception), fields)

    def test_unmade(self):
        why = ("many",)
        tower = (tongue(bad()), part("p", "t", function("f", (), t("BAD")), function("g", (), call("p.f"))))
        self.check(tower, "p.f", [], Unmade, f="p.f", at=0, why=why)
        self.check(tower, "p.g", [], Unmade, f="p.f", at=0, why=why)

    def test_also_where_the_run_would_not_come_to_it(self):
        pick = form("IF", [term(), term(), term()], ground("IF", hole(0), hole(1), hole(2)))
        one = form("ONE", [], num(1))
        p = part("p", "t", function("f", (), t("IF", t("ONE"), t("ONE"), t("BAD"))))
        self.check((tongue(pick, one, bad()), p), "p.f", [], Unmade, f="p.f", at=3, why=("many",))

    def test_why(self):
        forms = [form("A", [LIT], num(made("low.div", lit(0)))), form("B", [LIT], num(made("lag.slow", lit(0), 999)))]
        forms += [form("C", [], num(made("far.one", 1)))]
        rows = [(t("A", 0), ("fault", "nought", "low.div", 0)), (t("B", 999), ("long",)), (t("C"), ("face",))]
        for body, why in rows:
            tower = (LOW, LAG, FAR, tongue(*forms), part("p", "t", function("f", (), body)))
            self.check(tower, "p.f", [], Unmade, f="p.f", at=0, why=why)
        self.assertEqual(ran((*tower[:4], part("p", "t", function("f", (), t("A", 5)))), "p.f", []), ("told", 2, 1))

    def test_too_big(self):
        double = form("TW", [term()], plus(hole(0), hole(0)))
        fat = nested(11, X, lambda inner, at: t("TW", inner))
        p = part("p", "t", function("f", (("x", "n"),), fat), function("g", (("x", "n"),), call("p.f", X)))
        tower = (tongue(double), p)
        self.check(tower, "p.f", [1], TooBig, most=3000)
        self.check(tower, "p.g", [1], TooBig, most=3000)
        with self.assertRaises(TooBig) as caught:
            ran(tower, "p.g", [1], most=7)
        self.assertEqual(caught.exception.most, 3000)
        deep = (
            tongue(double),
            part("p", "t", function("f", (("x", "n"),), nested(41, X, lambda inner, at: t("TW", inner)))),
        )
        self.check(deep, "p.f", [1], TooBig, most=3000)

    def test_ahead_of_too_long(self):
        p = part("p", "t", function("f", (), t("BAD")), function("g", (), t("PLUS", call("p.f"), call("p.f"))))
        tower = (tongue(bad(), form("PLUS", [term(), term()], plus(hole(0), hole(1)))), p)
        with self.assertRaises(Unmade):
            ran(tower, "p.g", [], most=1)

    def test_the_order_in_which_they_are_come_to(self):
        """It, then all that it calls, then all that the first of these calls, then the second."""
        forms = [bad(), form("PLUS", [term(), term()], plus(hole(0), hole(1))), form("ONE", [], num(1))]
        low = part("a", "t", *[function(f, (), t("BAD")) for f in ("p", "q", "r")])
        for second, due in (("q", "a.q"), ("r", "a.r")):
            mid = part(
                "b",
                "t",
                function("f", (), t("PLUS", call("a.p"), t("ONE"))),
                function("g", (), call(f"a.{second}")),
            )
            top = part("c", "t", function("f", (), t("PLUS", call("b.g"), call("b.f"))))
            self.check((tongue(*forms), low, mid, top), "c.f", [], Unmade, f=due, at=0, why=("many",))
        top = part("c", "t", function("f", (), t("PLUS", call("b.f"), t("PLUS", call("a.q"), call("b.g")))))
        self.check((tongue(*forms), low, mid, top), "c.f", [], Unmade, f="a.q", at=0, why=("many",))
        top = part("c", "t", function("f", (), t("PLUS", call("b.f"), t("PLUS", call("b.g"), t("BAD")))))
        self.check((tongue(*forms), low, mid, top), "c.f", [], Unmade, f="c.f", at=4, why=("many",))

    def test_a_face_and_an_unmade_one(self):
        face = ("face", "z", "t", (("f", (), "n"),))
        forms = [bad(), form("PLUS", [term(), term()], plus(hole(0), hole(1)))]
        low = part("a", "t", function("f", (), t("BAD")))
        tower = (tongue(*forms), face, low, part("c", "t", function("f", (), t("PLUS", call("z.f"), call("a.f")))))
        self.check(tower, "c.f", [], NoBody, f="z.f")
        tower = (tongue(*forms), face, low, part("c", "t", function("f", (), t("PLUS", call("a.f"), call("z.f")))))
        self.check(tower, "c.f", [], Unmade, f="a.f", at=0, why=("many",))

    def test_calls_of_what_is_laid_down(self):
        # The order is that of the ground's parts; what a meaning drops isn't laid down, what it calls is.
        forms = [
            bad(),
            form("SWAP", [term(), term()], plus(hole(1), hole(0))),
            form("DROP", [term(), term()], hole(1)),
            form("CALL", [], call("far.one", num(1))),
        ]
        low = part(
            "a",
            "t",
            function("p", (), t("BAD")),
            function("q", (), t("DROP", t("BAD"), t("BAD"))),
            function("r", (), t("CALL")),
        )
        tower = (FAR, tongue(*forms), low, part("c", "t", function("f", (), t("SWAP", call("a.p"), call("a.q")))))
        self.check(tower, "c.f", [], Unmade, f="a.q", at=2, why=("many",))
        tower = (*tower[:3], part("c", "t", function("f", (), t("DROP", call("a.p"), call("a.r")))))
        self.check(tower, "c.f", [], NoBody, f="far.one")


class FaultTest(unittest.TestCase):
    """Faults are told in the words, and at the place, of what somebody wrote."""

    def setUp(self):
        first = tongue(
            form("DIV", [term(), term()], ground("/", hole(0), hole(1))),
            form("SURE", [term()], ground("NEED", hole(0), hole(0))),
            form("N", [LIT], num(lit(0))),
            form("LOW", [term()], call("low.div", hole(0))),
            form("PLUS", [term(), term()], plus(hole(0), hole(1))),
            form("WAY", [term()], call("lag.far", hole(0))),
            faults=("zero", "none"),
            tells=("zero", "none"),
        )
        self.p = part(
            "p",
            "t",
            function("f", (("x", "n"),), t("PLUS", t("N", 1), t("DIV", t("N", 9), X))),
            function("g", (("x", "n"),), t("PLUS", X, call("p.f", X))),
            function("h", (("x", "n"),), t("PLUS", X, t("LOW", X))),
            function("i", (("x", "n"),), t("PLUS", X, call("p.h", X))),
        )
        second = tongue(
            form("TOP", [term()], t("PLUS", call("p.f", hole(0)), hole(0))),
            form("TEN", [term(), term()], t("PLUS", hole(1), t("DIV", t("N", 10), hole(0)))),
            form("FAR", [term()], t("LOW", call("p.i", hole(0)))),
            form("ALL", [term()], t("SURE", hole(0))),
            form("ADD", [term(), term()], t("PLUS", hole(0), hole(1))),
            form("NUM", [LIT], t("N", lit(0))),
            called="u",
            below="t",
            meaning="n",
            faults=("oops", "never"),
            tells=("never", "oops"),
        )
        self.q = part(
            "q",
            "u",
            function("a", (("x", "n"),), u("ADD", u("NUM", 1), u("TEN", X, u("NUM", 1)))),
            function("b", (("x", "n"),), u("ADD", X, u("TOP", X))),
            function("c", (("x", "n"),), u("ADD", u("NUM", 1), call("q.b", X))),
            function("d", (("x", "n"),), u("ALL", X)),
        )
        third = tongue(
            form("V", [term()], u("ADD", u("NUM", 2), u("TEN", hole(0), hole(0)))),
            form("W", [term()], call("q.c", hole(0))),
            called="v",
            below="u",
            meaning="n",
            faults=("last",),
            tells=("last", "last"),
        )
        self.r = part(
            "r",
            "v",
            function("a", (("x", "n"),), use("v", "V", X)),
            function("b", (("x", "n"),), use("v", "V", use("v", "W", X))),
            function("c", (("x", "n"),), call("r.b", X)),
        )
        self.tower = (LOW, LAG, first, self.p, second, self.q, third, self.r)

    def check(self, f, numbers, *due):
        self.assertIs(look_tower(self.tower), True)
        self.assertEqual(ran(self.tower, f, numbers)[:4], ("fault", *due))

    def test_through_one_tongue(self):
        self.check("p.f", [0], "zero", "p.f", 2)
        self.assertEqual(ran(self.tower, "p.f", [2]), ("told", 5, 4))
        self.assertEqual(ran(self.tower, "p.f", [0]), ("fault", "zero", "p.f", 2, 4))

    def test_in_a_function_that_a_written_call_calls(self):
        self.check("p.g", [0], "zero", "p.f", 2)
        self.check("lag.far", [0], "nought", "low.div", 0)

    def test_in_a_function_that_a_meaning_calls(self):
        self.check("p.h", [0], "zero", "p.h", 2)

    def test_by_both_within_one_another(self):
        self.check("p.i", [0], "zero", "p.h", 2)
        p = part("p", "t", function("w", (("x", "n"),), t("PLUS", X, t("WAY", X))))
        tower = (*self.tower[:3], p)
        self.assertEqual(ran(tower, "p.w", [0])[:4], ("fault", "zero", "p.w", 2))

    def test_the_outermost_call_that_a_meaning_made(self):
        s = part("s", "u", function("f", (("x", "n"),), u("ADD", u("NUM", 3), u("FAR", X))))
        tower = (*self.tower[:6], s)
        self.assertIs(look_tower(tower), True)
        # FAR's laid-down call of low.div has as its argument one of p.i, in which p.h fails.
        self.assertEqual(ran(tower, "s.f", [0])[:4], ("fault", "never", "s.f", 2))

    def test_an_argument_of_a_call_is_no_body(self):
        first = tongue(
            form("LOW", [term()], call("low.same", hole(0))),
            form("DIV", [term()], ground("/", num(1), hole(0))),
        )
        p = part(
            "p",
            "t",
            function("f", (("x", "n"),), t("LOW", t("DIV", X))),
            function("g", (("x", "n"),), call("p.f", t("DIV", X))),
        )
        tower = (LOW, first, p)
        self.assertEqual(ran(tower, "p.f", [0])[:4], ("fault", "bad", "p.f", 1))
        self.assertEqual(ran(tower, "p.g", [0])[:4], ("fault", "bad", "p.g", 1))

    def test_through_two_tongues(self):
        self.check("q.a", [0], "never", "q.a", 2)
        self.check("q.b", [0], "never", "q.b", 2)
        self.check("q.c", [0], "never", "q.b", 2)
        self.check("q.d", [0], "oops", "q.d", 0)

    def test_through_three_tongues(self):
        self.check("r.a", [0], "last", "r.a", 0)
        self.check("r.b", [0], "last", "r.b", 1)
        self.check("r.c", [0], "last", "r.b", 1)
        # Here q.c tells 1 + 999 + p.f: then V divides by it.
        told = ran(self.tower, "r.b", [999])
        self.assertEqual(told[:2], Plain(self.tower).ran("r.b", [999])[:2])

    def test_of_the_innermost_written_use(self):
        first = tongue(
            form("DIV", [term(), term()], ground("/", hole(0), hole(1))),
            form("LESS", [term(), LIT], ground("-", hole(0), num(lit(0)))),
        )
        second = tongue(
            form("IN", [term()], t("DIV", t("LESS", hole(0), 1), t("LESS", hole(0), 2))),
            form("ON", [term()], hole(0)),
            called="u",
            below="t",
            meaning="n",
        )
        body = u("ON", u("IN", u("ON", u("IN", X))))
        tower = (first, second, part("p", "u", function("f", (("x", "n"),), body)))
        self.assertIs(look_tower(tower), True)
        self.assertEqual(ran(tower, "p.f", [2])[:4], ("fault", "bad", "p.f", 3))
        self.assertEqual(ran(tower, "p.f", [3])[:4], ("fault", "bad", "p.f", 1))


class SeenTest(unittest.TestCase):
    def check(self, tower, f, numbers, due):
        self.assertIs(look_tower(tower), True)
        told = seen(tower, f, numbers)
        self.assertEqual(told, due)
        self.assertIsInstance(told, list)

    def test_the_ground(self):
        body = plus(let("a", X, name("a")), loop(num(2), "b", Y, plus(name("b"), num(1))))
        told = [("p.f", at) for at in (0, 1, 4, 5, 7, 9, 7, 9)]
        self.check(on_ground(body), "p.f", [1, 2], told)
        self.check(on_ground(X), "p.f", [1, 2], [])
        self.check(on_ground(ground("IF", X, num(1), num(2))), "p.f", [0, 2], [("p.f", 0), ("p.f", 3)])

    def test_calls(self):
        tower = (LOW, LAG)
        self.check(tower, "lag.far", [5], [("lag.far", 0), ("lag.far", 1), ("low.div", 0), ("low.div", 1)])
        self.check(tower, "low.same", [5], [])

    def test_written_uses(self):
        forms = [
            form("TW", [term()], plus(hole(0), hole(0))),
            form("SAME", [term()], hole(0)),
            form("LATE", [term(), term()], plus(hole(1), hole(0))),
            form("DROP", [term(), term()], hole(0)),
            form("N", [LIT], num(lit(0))),
            form("LOW", [term()], call("low.div", hole(0))),
        ]
        params = (("x", "n"),)

        def told(body):
            tower = (LOW, tongue(*forms), part("p", "t", function("f", params, body)))
            self.assertIs(look_tower(tower), True)
            found = seen(tower, "p.f", [7])
            self.assertEqual([f for f, _ in found if f != "p.f"], [])
            return [at for _, at in found]

        self.assertEqual(told(t("TW", t("N", 1))), [0, 1, 1])
        self.assertEqual(told(t("SAME", t("N", 1))), [0, 1])
        self.assertEqual(told(t("SAME", X)), [0])
        self.assertEqual(told(t("SAME", t("SAME", t("SAME", X)))), [0, 1, 2])
        self.assertEqual(told(t("TW", t("SAME", X))), [0, 1, 1])
        self.assertEqual(told(t("LATE", t("N", 1), t("N", 2))), [0, 2, 1])
        self.assertEqual(told(t("DROP", t("N", 1), t("N", 2))), [0, 1])
        self.assertEqual(told(t("LOW", t("SAME", t("N", 1)))), [0, 1, 2])
        self.assertEqual(told(X), [])
        self.assertEqual(told(t("SAME", t("LOW", X))), [0, 1])

    def test_functions_in_the_same_tongue_alone(self):
        more = part("more", "duo", function("f", (("x", "n"),), use("duo", "ADD", X, call("mid.inc", X))))
        tower = (*TOWER, more)
        self.check(tower, "more.f", [3], [("more.f", 0), ("mid.inc", 0), ("mid.inc", 2)])
        first = tongue(form("LOW", [term()], call("low.div", hole(0))))
        tower = (LOW, first, part("p", "t", function("f", (("x", "n"),), t("LOW", X))))
        self.check(tower, "p.f", [3], [("p.f", 0)])
        self.check(tower, "low.div", [3], [("low.div", 0), ("low.div", 1)])

    def test_what_is_made_of_a_use_that_a_meaning_made_is_not_seen(self):
        first = tongue(form("TW", [term()], plus(hole(0), hole(0))), form("N", [LIT], num(lit(0))))
        second = tongue(
            form("FOUR", [term()], t("TW", t("TW", hole(0)))),
            form("ONE", [], t("N", 1)),
            called="u",
            below="t",
            meaning="n",
        )
        tower = (first, second, part("p", "u", function("f", (), u("FOUR", u("ONE")))))
        self.check(tower, "p.f", [], [("p.f", at) for at in (0, 1, 1, 1, 1)])

    def test_as_far_as_the_run_goes(self):
        body = plus(ground("/", num(1), X), num(2))
        self.check(on_ground(body), "p.f", [0, 0], [("p.f", at) for at in (0, 1, 2)])
        self.check(on_ground(body), "p.f", [1, 0], [("p.f", at) for at in (0, 1, 2, 4)])
        self.check(on_ground(ground("NEED", X, num(1))), "p.f", [0, 0], [("p.f", 0)])

    def test_each_time(self):
        rep = form("REP", [LIT, NAME, term(), term(0)], times(lit(0), hole(0), let(own(0), REST, hole(1))))
        body = t("REP", 3, "a", X, t("UP", name("a")))
        up = form("UP", [term()], plus(hole(0), num(1)))
        tower = (tongue(rep, up), part("p", "t", function("f", (("x", "n"),), body)))
        self.check(tower, "p.f", [1], [("p.f", 0), ("p.f", 2), ("p.f", 2), ("p.f", 2)])
        self.assertEqual(ran(tower, "p.f", [1]), ("told", 4, 9))


class ChanceTest(unittest.TestCase):
    """Runs by chance tell, or are refused, as is found plainly: number, fault, place, turns, and what is seen."""

    def test_any_towers(self):
        told = {"told": 0, "fault": 0, "unmade": 0, "face": 0, "long": 0, "big": 0}
        for seed in range(100, 130):
            chance = Chance(random.Random(seed), makes=seed % 2 > 0)
            tower = chance.good_tower()
            if seed % 3 == 0:
                tower = tuple([face_of(item) if item[1] == "p" else item for item in tower])
            plain = Plain(tower)
            for item in [item for item in tower if item[0] == "part"]:
                for one in item[3]:
                    self.check(chance.chance, plain, f"{item[1]}.{one[0]}", len(one[1]), told)
        self.assertGreater(told["told"], 200)
        for word in ("fault", "unmade"):
            self.assertGreater(told[word], 40)
        for word in ("face", "long"):
            self.assertGreater(told[word], 0)

    def check(self, rng, plain, f, many, told):
        for most in (MOST, rng.randrange(1, 30)):
            numbers = [rng.choice([0, 1, 2, 5, 999]) for _ in range(many)]
            due, found = plain.ran_seen(f, numbers, most)
            self.assertEqual(row_of(ran, plain.tower, f, numbers, most=most), due)
            told[due[0]] += 1
            if due[0] in ("told", "fault"):
                self.assertEqual(seen(plain.tower, f, numbers, most=most), found)
            if due[0] == "fault":
                tongues = {item[1]: item[2] for item in plain.tower}
                self.assertEqual(tongues[due[2].split(".")[0]], tongues[f.split(".")[0]])

    def test_parts_seen_are_written_uses(self):
        tower = (LOW, LAG)
        for f, at in seen(tower, "lag.slow", [3, 3]):
            body = [one[3] for one in LAG[3] if f"lag.{one[0]}" == f][0]
            self.assertEqual(parts(body)[at][0], "use")


if __name__ == "__main__":
    unittest.main()
