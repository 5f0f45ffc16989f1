import random
import unittest

from tests.chance import Chance
from tests.plainly import Plain, row_of
from tests.samples import (
    REST,
    TOWER,
    call,
    choose,
    ground,
    hole,
    let,
    letters,
    lit,
    loop,
    made,
    name,
    nested,
    num,
    own,
    plus,
    times,
    turn,
    use,
)
from tests.tongues_made import FAR, LAG, LIT, LOW, NAME, form, function, part, term, tongue
from tonguetower.errors import NoMaking, NoUse, TooBig, TowerError
from tonguetower.kinds import look_term
from tonguetower.laying import MAKING, PARTS, laid, laid_floor, laid_use
from tonguetower.names import are_alike, free_names
from tonguetower.terms import deep, parts
from tonguetower.towers import look_tower

X, Y, Z, T = name("x"), name("y"), name("z"), name("t")


def t(head, *things):
    return use("t", head, *things)


def u(head, *things):
    return use("u", head, *things)


def made_names(told):
    return [thing for one in parts(told) if one[0] == "use" for thing in one[3] if isinstance(thing, str)]


TW = form("TW", [term()], plus(hole(0), hole(0)))
DROP = form("DROP", [term(), term()], hole(0))
SET = form("SET", [NAME, term(), term(0)], let(own(0), hole(0), hole(1)))
MY = form("MY", [term()], let("t", num(1), plus(hole(0), T)))
HALF = form("HALF", [NAME, term(0), term()], let(own(0), num(1), plus(hole(0), hole(1))))
BASE = (tongue(TW, DROP, SET, MY, HALF),)
UP = tongue(
    form("FOUR", [term()], t("TW", t("TW", hole(0)))),
    form("LATE", [NAME, term(), term(0)], t("SET", own(0), hole(0), t("MY", hole(1)))),
    form("OFF", [term(), term()], t("DROP", hole(1), hole(0))),
    called="u",
    below="t",
    meaning="n",
)


class LaidTest(unittest.TestCase):
    def check(self, tower, given, due):
        self.assertIs(look_tower(tower), True)
        told = laid(tower, given)
        self.assertTrue(are_alike(tower, told, due), told)
        self.assertEqual(free_names(tower, told), free_names(tower, due))
        return told

    def test_ground_stays(self):
        for given in (X, num(3), let("x", X, X), call("p.f", X, num(1)), loop(X, "x", X, X)):
            self.assertEqual(laid(BASE, given), given)

    def test_a_hole_twice_and_never(self):
        self.check(BASE, t("TW", X), plus(X, X))
        self.check(BASE, t("TW", num(3)), plus(num(3), num(3)))
        self.check(BASE, t("DROP", X, Y), X)
        self.check(BASE, t("DROP", t("TW", X), t("TW", Y)), plus(X, X))
        self.check(BASE, plus(t("DROP", X, Y), t("TW", Z)), plus(X, plus(Z, Z)))

    def test_the_same_form_within_itself(self):
        self.check(BASE, t("TW", t("TW", X)), plus(plus(X, X), plus(X, X)))
        self.check(BASE, t("SET", "x", X, t("SET", "x", X, X)), let("x", X, let("x", X, X)))
        self.check(BASE, t("MY", t("MY", T)), let("a", num(1), plus(let("b", num(1), plus(T, name("b"))), name("a"))))

    def test_opened_names(self):
        self.check(BASE, t("SET", "x", Y, plus(X, Z)), let("q", Y, plus(name("q"), Z)))
        self.check(BASE, t("SET", "x", X, X), let("q", X, name("q")))
        self.check(BASE, t("HALF", "x", X, X), let("q", num(1), plus(name("q"), X)))
        self.check(BASE, t("HALF", "x", let("x", X, X), X), let("q", num(1), plus(let("x", name("q"), X), X)))
        self.check(
            BASE,
            t("HALF", "x", t("HALF", "x", X, X), X),
            let("q", num(1), plus(let("r", num(1), plus(name("r"), name("q"))), X)),
        )

    def test_a_name_that_would_be_caught(self):
        self.check(BASE, t("MY", T), let("a", num(1), plus(T, name("a"))))
        self.check(BASE, let("t", X, t("MY", T)), let("t", X, let("a", num(1), plus(T, name("a")))))
        for x in ("a", "b", "c", "t", "x"):
            self.check(BASE, t("MY", name(x)), let("q", num(1), plus(name(x), name("q"))))
            self.check(BASE, t("SET", x, name(x), name("z")), let("q", name(x), name("z")))
            self.check(BASE, t("HALF", "y", name(x), Y), let("q", num(1), plus(name(x), Y)))

    def test_new_names_each_time(self):
        told = laid(BASE, t("TW", t("MY", X)))
        self.assertEqual(len(set(made_names(told))), 2)
        told = laid(BASE, plus(t("SET", "x", X, X), t("SET", "x", X, X)))
        self.assertEqual(len(set(made_names(told))), 2)
        self.assertNotIn("x", made_names(told))

    def test_own_names_in_each_turn(self):
        rep = form("REP", [LIT, NAME, term(0), term()], times(lit(0), hole(1), let(own(0), REST, hole(0))))
        tower = (tongue(rep),)
        inner = plus(name("a"), X)
        self.check(tower, t("REP", 0, "a", inner, Y), Y)
        self.check(tower, t("REP", 1, "a", inner, Y), let("a", Y, inner))
        self.check(
            tower,
            t("REP", 2, "a", inner, name("a")),
            let("b", let("c", name("a"), plus(name("c"), X)), plus(name("b"), X)),
        )
        told = laid(tower, t("REP", 9, "a", inner, Y))
        self.assertEqual(len(set(made_names(told))), 9)

    def test_own_names_within_one_another(self):
        # The innermost of the names around is meant, in each turn another one.
        rep = form("REP", [LIT, NAME, term(0)], times(lit(0), num(0), let(own(0), num(1), plus(hole(0), REST))))
        tower = (tongue(rep),)
        a, b, c = name("a"), name("b"), name("c")
        due = let(
            "a",
            num(1),
            plus(plus(a, X), let("b", num(1), plus(plus(b, X), let("c", num(1), plus(plus(c, X), num(0)))))),
        )
        self.check(tower, t("REP", 3, "x", plus(X, X)), self.renamed_x(3))
        self.check(tower, t("REP", 3, "y", plus(Y, X)), due)

    def renamed_x(self, many):
        told = num(0)
        for at in range(many):
            bound = letters(at)
            told = let(bound, num(1), plus(plus(name(bound), name(bound)), told))
        return told

    def test_choose(self):
        pick = form("PICK", [LIT, term(), term(), term()], choose(lit(0), hole(0), hole(1), hole(2)))
        tower = (tongue(pick),)
        for number, due in ((0, X), (1, Y), (2, Z), (3, Z), (4, Z), (999, Z)):
            self.check(tower, t("PICK", number, X, Y, Z), due)
        one = (tongue(form("ONE", [LIT], choose(lit(0), num(lit(0))))),)
        for number in (0, 1, 999):
            self.check(one, t("ONE", number), num(number))

    def test_times(self):
        tower = (tongue(form("ADD", [LIT, term()], times(lit(0), num(0), plus(hole(0), REST)))),)
        due = num(0)
        for many in range(10):
            self.check(tower, t("ADD", many, X), due)
            due = plus(X, due)

    def test_turns(self):
        tower = (tongue(form("UP", [LIT], times(lit(0), num(7), plus(num(turn(0)), REST)))),)
        self.check(tower, t("UP", 0), num(7))
        self.check(tower, t("UP", 1), plus(num(0), num(7)))
        self.check(tower, t("UP", 3), plus(num(2), plus(num(1), plus(num(0), num(7)))))

    def test_a_step_without_rest(self):
        tower = (tongue(form("LAST", [LIT], times(lit(0), num(700), num(turn(0))))),)
        self.check(tower, t("LAST", 0), num(700))
        self.check(tower, t("LAST", 1), num(0))
        self.check(tower, t("LAST", 9), num(8))

    def test_times_within_times(self):
        inner = times(2, num(turn(0)), plus(ground("*", num(turn(0)), num(turn(1))), REST))
        tower = (tongue(form("SQ", [], times(3, num(0), plus(inner, REST)))),)
        due = num(0)
        for outer in range(3):
            row = num(outer)
            for at in range(2):
                row = plus(ground("*", num(at), num(outer)), row)
            due = plus(row, due)
        self.check(tower, t("SQ"), due)

    def test_a_rest_in_a_choose(self):
        step = choose(turn(0), num(5), plus(num(1), REST))
        tower = (tongue(form("C", [LIT], times(lit(0), num(7), step))),)
        self.check(tower, t("C", 0), num(7))
        self.check(tower, t("C", 1), num(5))
        self.check(tower, t("C", 2), plus(num(1), num(5)))
        self.check(tower, t("C", 4), plus(num(1), plus(num(1), plus(num(1), num(5)))))

    def test_made(self):
        same = form("A", [LIT], num(made("low.same", lit(0))))
        both = form("B", [LIT, LIT], num(made("low.sum", made("low.same", lit(1)), made("low.div", lit(0)))))
        many = form(
            "C", [LIT], times(made("low.div", lit(0)), num(0), plus(num(made("low.sum", turn(0), lit(0))), REST))
        )
        pick = form("D", [LIT, term(), term()], choose(made("low.same", lit(0)), hole(0), hole(1)))
        tower = (LOW, tongue(same, both, many, pick))
        self.check(tower, t("A", 5), num(5))
        self.check(tower, t("B", 3, 4), num(7))
        self.check(tower, t("C", 4), plus(num(5), plus(num(4), num(0))))
        self.check(tower, t("D", 0, X, Y), X)
        self.check(tower, t("D", 1, X, Y), Y)

    def test_made_by_functions_in_any_tongue(self):
        first = tongue(form("N", [LIT], num(lit(0))), form("ADD", [LIT, term()], plus(hole(0), num(lit(0)))))
        f = function("f", (("x", "n"),), t("ADD", 5, X))
        g = function("g", (("x", "n"),), call("lib.f", t("ADD", 1, X)))
        k = form("K", [LIT], t("N", made("lib.g", lit(0))))
        second = tongue(k, called="u", below="t", meaning="n")
        tower = (first, part("lib", "t", f, g), second)
        self.check(tower, u("K", 3), num(9))
        self.check(tower, u("K", 999), num(5))
        # A function that is run at making has uses by which others are run at making.
        h = part("h", "u", function("h", (("x", "n"),), call("h.a", u("K", 7))))
        h = (*h[:3], (function("a", (("x", "n"),), X), *h[3]))
        third = tongue(form("M", [], u("K", made("h.h", 1))), called="v", below="u", meaning="n")
        self.check((*tower, h, third), use("v", "M"), num(19))

    def test_the_same_numbers_are_made_again(self):
        a = form("A", [], times(9, num(0), plus(num(made("lag.slow", 7, 700)), REST)))
        tower = (LOW, LAG, tongue(a, form("TW", [term()], plus(hole(0), hole(0)))))
        self.check(tower, t("A"), nested(9, num(0), lambda inner, at: plus(num(1), inner)))
        self.assertEqual(len(parts(laid(tower, nested(6, t("A"), lambda inner, at: t("TW", inner))))), 63 + 64 * 19)

    def test_calls(self):
        tower = (LOW, tongue(form("S", [term(), term()], call("low.sum", hole(1), call("low.same", hole(0))))))
        self.check(
            tower,
            t("S", X, t("S", Y, Z)),
            call("low.sum", call("low.sum", Z, call("low.same", Y)), call("low.same", X)),
        )
        self.check(tower, call("p.f", t("S", X, Y), Z), call("p.f", call("low.sum", Y, call("low.same", X)), Z))

    def test_two_tongues(self):
        tower = (*BASE, UP)
        four = plus(plus(X, X), plus(X, X))
        self.check(tower, u("FOUR", X), four)
        self.check(
            tower, u("LATE", "x", X, plus(X, T)), let("a", X, let("b", num(1), plus(plus(name("a"), T), name("b"))))
        )
        self.check(tower, u("OFF", t("TW", Y), u("FOUR", X)), four)
        self.check(tower, t("TW", u("OFF", X, Y)), plus(Y, Y))

    def test_by_name_again_and_unchanged(self):
        given = t("SET", "x", Y, t("MY", X))
        first = laid(tower=BASE, term=given, most=PARTS)
        self.assertEqual(laid(BASE, given), first)
        self.assertEqual(laid_use(tower=BASE, term=given, at=0), laid_use(BASE, given, 0))
        self.assertEqual(laid_floor(tower=BASE, tongue="t", term=given), laid_floor(BASE, "t", given))
        self.assertEqual(given, t("SET", "x", Y, t("MY", X)))
        self.assertEqual((MAKING, PARTS), (5000, 3000))
        with self.assertRaises(TypeError):
            laid(BASE, given, 5)


# Faults by numbers: 2 is need, 0 is nought, others are told.
PICKY = part(
    "picky",
    "ground",
    function(
        "f",
        (("x", "num"),),
        plus(ground("NEED", ground("-", X, num(2)), num(5)), ground("/", num(6), X)),
        "num",
    ),
)
NOUGHT = ("fault", "nought", "picky.f", 6)
NEED = ("fault", "need", "picky.f", 1)


def of(number):
    """A numeral that is made: 2 ends by need, 0 by nought."""
    return num(made("picky.f", number))


class NoMakingTest(unittest.TestCase):
    def check(self, forms, given, at, why, **more):
        tower = (PICKY, LOW, LAG, FAR, tongue(*forms))
        self.assertIs(look_tower(tower), True)
        with self.assertRaises(NoMaking) as caught:
            laid(tower, given, **more)
        self.assertEqual((caught.exception.at, caught.exception.why), (at, why))
        self.assertIsInstance(caught.exception, TowerError)

    def passes(self, forms, given, due):
        tower = (PICKY, LOW, LAG, FAR, tongue(*forms))
        self.assertIs(look_tower(tower), True)
        self.assertTrue(are_alike(tower, laid(tower, given), due), laid(tower, given))

    def test_a_fault(self):
        forms = [form("A", [LIT], of(lit(0)))]
        self.passes(forms, t("A", 3), num(7))
        self.check(forms, t("A", 0), 0, NOUGHT)
        self.check(forms, t("A", 2), 0, NEED)
        self.check([form("A", [], num(made("low.div", 0)))], t("A"), 0, ("fault", "nought", "low.div", 0))
        self.check([form("A", [], num(made("lag.far", 0)))], t("A"), 0, ("fault", "nought", "low.div", 0))
        self.check([form("A", [], num(made("low.want", 0)))], t("A"), 0, ("fault", "need", "low.want", 0))

    def test_too_long(self):
        forms = [
            form("A", [LIT, LIT], num(made("lag.slow", lit(0), lit(1)))),
            form("B", [LIT, LIT], num(made("lag.slower", lit(0), lit(1)))),
        ]
        self.passes(forms, t("A", 7, 712), num(1))
        self.passes(forms, t("B", 7, 711), num(1))
        self.check(forms, t("B", 7, 712), 0, ("long",))
        self.check(forms, t("A", 7, 713), 0, ("long",))
        self.check(forms, plus(X, t("A", 999, 999)), 2, ("long",))

    def test_many(self):
        forms = [form("A", [LIT, term()], times(lit(0), hole(0), plus(num(1), REST)))]
        self.passes(forms, t("A", 9, X), nested(9, X, lambda inner, at: plus(num(1), inner)))
        for number in (10, 11, 999):
            self.check(forms, t("A", number, X), 0, ("many",))
            self.check(forms, plus(X, t("A", 1, t("A", number, X))), 3, ("many",))
        self.check([form("A", [], times(10, num(0), num(1)))], t("A"), 0, ("many",))

    def test_a_face(self):
        self.check([form("A", [], num(made("far.one", 3)))], t("A"), 0, ("face",))
        user = part("user", "ground", function("f", (), call("user.g"), "num"))
        user = (*user[:3], (function("g", (), ground("IF", num(1), num(2), call("far.one", num(1))), "num"), *user[3]))
        tower = (FAR, user, tongue(form("A", [], num(made("user.f")))))
        with self.assertRaises(NoMaking) as caught:
            laid(tower, plus(t("A"), X))
        self.assertEqual((caught.exception.at, caught.exception.why), (1, ("face",)))

    def test_unmade(self):
        bad = form("BAD", [], num(made("low.div", 0)))
        fat = nested(11, X, lambda inner, at: t("TW", inner))
        lib = part(
            "lib",
            "t",
            function("f", (), t("BAD")),
            function("g", (("x", "n"),), call("lib.f")),
            function("h", (("x", "n"),), fat),
            function("i", (("x", "n"),), call("lib.h", X)),
        )
        forms = [
            form(head, [], t("N", made(f, *some)))
            for head, f, some in (("F", "lib.f", ()), ("G", "lib.g", (1,)), ("H", "lib.h", (1,)), ("I", "lib.i", (0,)))
        ]
        first = tongue(bad, TW, form("N", [LIT], num(lit(0))))
        tower = (LOW, first, lib, tongue(*forms, called="u", below="t", meaning="n"))
        self.assertIs(look_tower(tower), True)
        for head in "FGHI":
            for most in (PARTS, 20000):
                with self.assertRaises(NoMaking) as caught:
                    laid(tower, u(head), most=most)
                self.assertEqual((caught.exception.at, caught.exception.why), (0, ("unmade",)))

    def test_what_runs_at_making_is_laid_down_by_parts(self):
        fat = nested(10, X, lambda inner, at: t("TW", inner))
        lib = part("lib", "t", function("h", (("x", "n"),), fat))
        first = tongue(TW, form("N", [LIT], num(lit(0))))
        tower = (
            first,
            lib,
            tongue(form("H", [LIT], t("N", made("lib.h", lit(0)))), called="u", below="t", meaning="n"),
        )
        self.assertEqual(laid(tower, u("H", 1), most=1), num(24))

    def test_the_number_of_the_written_use(self):
        forms = [form("A", [LIT], of(lit(0))), TW, form("B", [term()], plus(hole(0), of(2))), SET]
        self.check(forms, plus(X, plus(t("A", 3), t("A", 0))), 4, NOUGHT)
        self.check(forms, t("TW", t("A", 0)), 1, NOUGHT)
        self.check(forms, call("low.sum", X, t("SET", "x", Y, t("A", 2))), 4, NEED)
        self.check(forms, t("B", t("A", 0)), 0, NEED)
        self.check(forms, t("TW", t("B", t("A", 0))), 1, NEED)

    def test_the_use_of_which_a_use_came(self):
        first = tongue(form("A", [LIT], of(lit(0))), TW)
        up = tongue(
            form("UP", [term(), LIT], t("TW", t("A", lit(0)))),
            form("IN", [term()], t("TW", hole(0))),
            called="u",
            below="t",
            meaning="n",
        )
        tower = (PICKY, first, up)
        for given, at in (
            (u("UP", X, 0), 0),
            (plus(X, u("UP", X, 0)), 2),
            (u("IN", u("UP", X, 0)), 1),
            (u("IN", t("A", 0)), 1),
        ):
            with self.assertRaises(NoMaking) as caught:
                laid(tower, given)
            self.assertEqual((caught.exception.at, caught.exception.why), (at, NOUGHT))

    def test_from_left_to_right(self):
        forms = [
            form("A", [LIT, LIT], plus(of(lit(0)), of(lit(1)))),
            form("B", [term(), LIT], plus(hole(0), of(lit(0)))),
        ]
        self.check(forms, t("A", 0, 2), 0, NOUGHT)
        self.check(forms, t("A", 2, 0), 0, NEED)
        self.check(forms, t("A", 3, 0), 0, NOUGHT)
        self.check(forms, plus(t("A", 3, 3), plus(t("A", 3, 2), t("A", 0, 0))), 3, NEED)
        # What a use has is reckoned ahead of what stands in its holes.
        self.check(forms, t("B", t("B", X, 2), 0), 0, NOUGHT)
        self.check(forms, t("B", t("B", X, 2), 3), 1, NEED)

    def test_what_is_left_out_is_not_reckoned(self):
        forms = [
            form("A", [LIT], choose(lit(0), of(0), of(3), of(2))),
            form("B", [LIT], times(lit(0), num(1), of(0))),
            form("C", [LIT], times(lit(0), of(0), num(turn(0)))),
            form("D", [LIT], times(lit(0), of(0), choose(turn(0), num(8), plus(num(9), REST)))),
            form("E", [LIT], choose(1, times(of_number(0), num(0), num(1)), num(3))),
        ]
        self.passes(forms, t("A", 1), num(7))
        self.check(forms, t("A", 0), 0, NOUGHT)
        self.check(forms, t("A", 5), 0, NEED)
        self.passes(forms, t("B", 0), num(1))
        self.check(forms, t("B", 1), 0, NOUGHT)
        self.passes(forms, t("C", 3), num(2))
        self.check(forms, t("C", 0), 0, NOUGHT)
        self.passes(forms, t("D", 3), plus(num(9), plus(num(9), num(8))))
        self.check(forms, t("D", 0), 0, NOUGHT)
        self.passes(forms, t("E", 0), num(3))

    def test_the_order_of_turns(self):
        ahead = form("A", [LIT], times(lit(0), num(0), plus(of(turn(0)), REST)))
        behind = form("B", [LIT], times(lit(0), num(0), plus(REST, of(turn(0)))))
        base = form("C", [LIT], times(lit(0), of(0), plus(REST, of(2))))
        last = form("D", [LIT], times(lit(0), of(0), plus(of(2), REST)))
        forms = [ahead, behind, base, last]
        self.check(forms, t("A", 3), 0, NEED)
        self.check(forms, t("A", 2), 0, NOUGHT)
        self.check(forms, t("B", 3), 0, NOUGHT)
        self.check(forms, t("C", 1), 0, NOUGHT)
        self.check(forms, t("D", 1), 0, NEED)

    def test_at_the_begin_of_a_times_and_a_choose(self):
        forms = [
            form("A", [], times(of_number(0), of(2), of(2))),
            form("B", [], choose(of_number(2), of(0), of(0))),
            form("C", [], plus(of(0), times(10, num(0), num(0)))),
            form("D", [], plus(times(10, num(0), num(0)), of(0))),
            form("E", [], times(10, of(0), of(0))),
            form("F", [], times(9, num(0), times(10, of(0), of(0)))),
        ]
        self.check(forms, t("A"), 0, NOUGHT)
        self.check(forms, t("B"), 0, NEED)
        self.check(forms, t("C"), 0, NOUGHT)
        self.check(forms, t("D"), 0, ("many",))
        self.check(forms, t("E"), 0, ("many",))
        self.check(forms, t("F"), 0, ("many",))

    def test_of_a_made_its_own_come_first(self):
        forms = [
            form("A", [], num(made("far.one", made("picky.f", 0)))),
            form("B", [], num(made("low.sum", made("picky.f", 2), made("picky.f", 0)))),
            form("C", [], num(made("low.sum", made("low.same", made("picky.f", 0)), made("picky.f", 2)))),
            form("D", [], num(made("low.sum", made("far.one", 1), made("picky.f", 2)))),
            form("E", [], num(made("low.div", made("low.same", 0)))),
        ]
        self.check(forms, t("A"), 0, NOUGHT)
        self.check(forms, t("B"), 0, NEED)
        self.check(forms, t("C"), 0, NOUGHT)
        self.check(forms, t("D"), 0, ("face",))
        self.check(forms, t("E"), 0, ("fault", "nought", "low.div", 0))

    def test_ahead_of_the_first_part(self):
        late = form("A", [], plus(plus(num(1), num(1)), of(0)))
        self.check([late], t("A"), 0, NOUGHT, most=1)
        self.check([late], plus(X, t("A")), 2, NOUGHT, most=2)
        tower = (PICKY, tongue(late))
        with self.assertRaises(TooBig):
            laid(tower, plus(plus(X, Y), t("A")), most=2)
        with self.assertRaises(TooBig):
            laid(tower, plus(plus(X, Y), t("A")), most=1)
        with self.assertRaises(NoMaking):
            laid(tower, plus(plus(X, Y), t("A")), most=4)

    def test_by_use_and_by_floor(self):
        tower = (PICKY, tongue(form("A", [LIT], of(lit(0))), DROP, TW))
        for tell in (lambda given, at: laid_use(tower, given, at), lambda given, at: laid_floor(tower, "t", given)):
            with self.assertRaises(NoMaking) as caught:
                tell(t("TW", t("A", 0)), 1)
            self.assertEqual((caught.exception.at, caught.exception.why), (1, NOUGHT))
        self.assertEqual(laid_use(tower, t("TW", t("A", 0)), 0), plus(t("A", 0), t("A", 0)))
        self.assertEqual(laid_floor(tower, "t", t("DROP", X, t("A", 0))), X)
        self.assertEqual(laid(tower, t("DROP", X, t("A", 0))), X)


def of_number(number):
    """What stands for a number, made: 2 ends by need, 0 by nought."""
    return made("picky.f", number)


def doubled(many):
    """A term that comes to 2 ** (many + 1) - 1 parts."""
    return nested(many, X, lambda inner, at: t("TW", inner))


class TooBigTest(unittest.TestCase):
    def check(self, given, most, due, tell=laid, tower=BASE, told=None):
        if due:
            self.assertEqual(len(parts(tell(tower, given, most=most))), due)
            return
        with self.assertRaises(TooBig) as caught:
            tell(tower, given, most=most)
        self.assertEqual(caught.exception.most, most)

    def test_most_exactly_and_one_more(self):
        for many in range(6):
            size = 2 ** (many + 1) - 1
            self.check(doubled(many), size, size)
            self.check(doubled(many), size + 1, size)
            if size > 1:
                self.check(doubled(many), size - 1, None)
        self.check(num(1), 1, 1)
        self.check(plus(X, Y), 3, 3)
        self.check(plus(X, Y), 2, None)

    def three_thousand(self, last):
        inner = last
        for many in (2, 3, 4, 6, 7):
            inner = plus(doubled(many), inner)
        return ground("IF", doubled(10), doubled(8), inner)

    def test_parts_exactly_and_one_more(self):
        given = self.three_thousand(X)
        more = self.three_thousand(call("p.f", X))
        self.assertEqual(len(parts(laid(BASE, given))), 3000)
        with self.assertRaises(TooBig) as caught:
            laid(BASE, more)
        self.assertEqual(caught.exception.most, 3000)
        self.check(more, 3001, 3001)
        self.check(more, 20000, 3001)
        # Where no most is told it is PARTS: of one floor, and of one use, too.
        self.assertEqual(len(parts(laid_floor(BASE, "t", given))), 3000)
        with self.assertRaises(TooBig) as caught:
            laid_floor(BASE, "t", more)
        self.assertEqual(caught.exception.most, PARTS)
        big = t("TW", laid(BASE, self.three_thousand(X)))
        with self.assertRaises(TooBig) as caught:
            laid_use(BASE, big, 0)
        self.assertEqual(caught.exception.most, PARTS)
        half = laid(BASE, doubled(9))
        self.assertEqual(len(parts(laid_use(BASE, t("TW", half), 0))), 2047)

    def test_forty_deep_and_one_deeper(self):
        tower = (tongue(form("ROW", [term()], times(9, hole(0), plus(num(0), REST)))),)
        row = nested(4, X, lambda inner, at: t("ROW", inner))
        forty = nested(4, row, lambda inner, at: plus(num(0), inner))
        self.assertEqual(deep(laid(tower, forty)), 40)
        self.assertEqual(deep(laid(tower, forty, most=20000)), 40)
        for given in (plus(num(0), forty), t("ROW", row), plus(forty, forty)):
            for most in (PARTS, 20000):
                with self.assertRaises(TooBig) as caught:
                    laid(tower, given, most=most)
                self.assertEqual(caught.exception.most, most)
        self.assertEqual(deep(laid(tower, call("p.f", nested(39, X, lambda inner, at: call("p.f", inner))))), 40)
        with self.assertRaises(TooBig):
            laid(tower, call("p.f", nested(40, X, lambda inner, at: call("p.f", inner))))

    def test_what_grows_beyond_all_room(self):
        tower = (tongue(form("NINE", [term()], times(9, hole(0), plus(hole(0), REST)))),)
        with self.assertRaises(TooBig):
            laid(tower, nested(10, X, lambda inner, at: t("NINE", inner)))
        with self.assertRaises(TooBig):
            laid_floor(tower, "t", nested(10, X, lambda inner, at: t("NINE", inner)))
        self.assertEqual(laid((tongue(DROP, TW),), t("DROP", X, doubled(200))), X)

    def test_hundreds_deep(self):
        with self.assertRaises(TooBig):
            laid(BASE, nested(1500, X, lambda inner, at: plus(inner, Y)))
        given = nested(1500, X, lambda inner, at: t("DROP", inner, Y))
        self.assertEqual(laid(BASE, given), X)
        self.assertEqual(laid_floor(BASE, "t", given), X)
        given = nested(1500, Y, lambda inner, at: t("DROP", X, inner))
        self.assertEqual(laid_use(BASE, given, 0), X)

    def test_numbers_hundreds_deep(self):
        row = nested(1500, lit(0), lambda inner, at: made("low.sum", inner, 1))
        tower = (LOW, tongue(form("ROW", [LIT], num(row))))
        self.assertIs(look_tower(tower), True)
        self.assertEqual(laid(tower, t("ROW", 7)), num(507))

    def test_the_refusal_that_comes_first(self):
        bad = form("BAD", [LIT], times(lit(0), num(0), num(1)))
        tower = (tongue(bad, TW),)
        with self.assertRaises(TooBig):
            laid(tower, plus(doubled(3), t("BAD", 10)), most=15)
        with self.assertRaises(NoMaking) as caught:
            laid(tower, plus(doubled(3), t("BAD", 10)), most=16)
        self.assertEqual((caught.exception.at, caught.exception.why), (5, ("many",)))
        with self.assertRaises(NoMaking):
            laid(tower, plus(t("BAD", 10), doubled(3)), most=1)


class UseTest(unittest.TestCase):
    def check(self, given, at, due):
        told = laid_use(BASE, given, at)
        self.assertTrue(are_alike(BASE, told, due), told)

    def test_one_use(self):
        self.check(t("TW", X), 0, plus(X, X))
        self.check(t("TW", t("TW", X)), 0, plus(t("TW", X), t("TW", X)))
        self.check(t("TW", t("TW", X)), 1, t("TW", plus(X, X)))
        self.check(plus(X, t("TW", Y)), 2, plus(X, plus(Y, Y)))
        self.check(call("p.f", X, t("DROP", Y, Z)), 2, call("p.f", X, Y))
        self.check(t("DROP", X, t("TW", Y)), 2, t("DROP", X, plus(Y, Y)))

    def test_names(self):
        self.check(t("SET", "x", X, t("SET", "x", X, X)), 0, let("a", X, t("SET", "x", name("a"), X)))
        self.check(t("SET", "x", X, t("SET", "x", X, X)), 2, t("SET", "x", X, let("a", X, name("a"))))
        self.check(let("t", X, t("MY", T)), 2, let("t", X, let("a", num(1), plus(T, name("a")))))
        self.check(t("HALF", "x", t("TW", X), X), 0, let("a", num(1), plus(t("TW", name("a")), X)))

    def test_no_use(self):
        given = plus(t("TW", X), call("p.f", t("TW", Y)))
        for at in (0, 2, 3, 5, 6, 7, 100, -1, -2, -6):
            with self.assertRaises(NoUse) as caught:
                laid_use(BASE, given, at)
            self.assertEqual(caught.exception.at, at)
            self.assertIsInstance(caught.exception, TowerError)
        for at in (1, 4):
            laid_use(BASE, given, at)
        with self.assertRaises(NoUse):
            laid_use(BASE, X, 0)

    def test_in_several_orders(self):
        given = t(
            "SET", "x", t("TW", T), t("MY", plus(t("HALF", "t", t("TW", plus(T, X)), T), t("DROP", X, t("MY", T))))
        )
        due = laid(BASE, given)
        rng = random.Random(3)
        for _ in range(40):
            told = given
            while True:
                uses = [at for at, one in enumerate(parts(told)) if one[0] == "use" and one[1] != "ground"]
                if not uses:
                    break
                told = laid_use(BASE, told, rng.choice(uses))
            self.assertTrue(are_alike(BASE, told, due), told)


class FloorTest(unittest.TestCase):
    def setUp(self):
        self.tower = (*BASE, UP)

    def check(self, tongue_of, given, due):
        told = laid_floor(self.tower, tongue_of, given)
        self.assertTrue(are_alike(self.tower, told, due), told)

    def test_one_floor(self):
        self.check("u", u("FOUR", X), t("TW", t("TW", X)))
        self.check("t", t("TW", t("TW", X)), plus(plus(X, X), plus(X, X)))
        self.check("u", u("FOUR", u("FOUR", X)), nested(4, X, lambda inner, at: t("TW", inner)))
        self.check("u", u("LATE", "x", X, X), t("SET", "a", X, t("MY", name("a"))))
        self.check("u", u("OFF", u("FOUR", X), Y), t("DROP", Y, t("TW", t("TW", X))))

    def test_what_comes_of_it_and_other_tongues_stay(self):
        self.check("u", t("TW", u("FOUR", t("TW", X))), t("TW", t("TW", t("TW", t("TW", X)))))
        self.check("t", u("FOUR", t("TW", X)), u("FOUR", plus(X, X)))
        self.check("t", u("FOUR", X), u("FOUR", X))
        self.check("u", X, X)
        self.check("t", num(3), num(3))
        self.check("t", t("DROP", X, u("FOUR", t("TW", X))), X)

    def test_let_by_in_the_tongue_beneath(self):
        given = u("LATE", "x", u("FOUR", Y), u("OFF", X, u("LATE", "y", X, Y)))
        known = (("x", "n"), ("y", "n"))
        told = laid_floor(self.tower, "u", given)
        self.assertIs(look_term(self.tower, "t", known, "n", told), True)
        told = laid_floor(self.tower, "t", told)
        known = (("x", "num"), ("y", "num"))
        self.assertIs(look_term(self.tower, "ground", known, "num", told), True)
        self.assertTrue(are_alike(self.tower, told, laid(self.tower, given)))

    def test_of_the_shared_tower(self):
        known = (("x", "n"), ("y", "b"))
        given = use("duo", "TWO", "x", X, "y", X, use("duo", "LIT", 4), Y)
        told = laid_floor(TOWER, "duo", given)
        self.assertIs(look_term(TOWER, "ground", tuple([(x, "num") for x, _ in known]), "num", told), True)
        due = let("a", num(4), let("b", name("a"), plus(name("a"), name("b"))))
        self.assertTrue(are_alike(TOWER, told, due))


class ChanceTest(unittest.TestCase):
    """Towers by chance: laid down at once, floor by floor, and use by use, it comes to what is found plainly."""

    def functions(self, many):
        for seed in range(many):
            chance = Chance(random.Random(seed), calls=seed % 3 > 0, makes=seed % 2 > 0)
            tower = chance.good_tower()
            plain = Plain(tower)
            for item in tower:
                if item[0] == "part":
                    for one in item[3]:
                        yield chance.chance, plain, item[2], one

    def test_all_ways(self):
        told = {True: 0, False: 0}
        for rng, plain, tongue_of, (_, params, kind, body) in self.functions(25):
            tower = plain.tower
            for most in (PARTS, rng.randrange(1, 30)):
                ground_term = row_of(laid, tower, body, most=most)
                due = plain.laid(body, most)
                if due[0] in ("making", "big"):
                    self.assertEqual(ground_term, due)
                    told[False] += 1
                else:
                    self.assertTrue(are_alike(tower, ground_term, due))
                    told[True] += 1
            due = plain.laid(body)
            if due[0] not in ("making", "big") and len(parts(due)) <= 300:
                self.by_floors(tower, tongue_of, (params, kind, body), due)
                self.by_uses(rng, tower, body, due)
        self.assertGreater(told[True], 200)
        self.assertGreater(told[False], 50)

    def by_floors(self, tower, tongue_of, function_told, due):
        known, kind, body = function_told
        while tongue_of != "ground":
            plain = not [one for one in parts(body) if one[0] == "call"]
            try:
                body = laid_floor(tower, tongue_of, body)
            except (NoMaking, TooBig):
                return
            means = dict([item for item in tower if item[1] == tongue_of][0][3])
            known = tuple([(x, means[one]) for x, one in known])
            kind = means[kind]
            tongue_of = [item for item in tower if item[1] == tongue_of][0][2]
            if plain:
                self.assertIs(look_term(tower, tongue_of, known, kind, body), True)
        self.assertTrue(are_alike(tower, body, due))

    def by_uses(self, rng, tower, body, due):
        while True:
            uses = [at for at, one in enumerate(parts(body)) if one[0] == "use" and one[1] != "ground"]
            if not uses:
                break
            try:
                body = laid_use(tower, body, rng.choice(uses))
            except (NoMaking, TooBig):
                return
        self.assertTrue(are_alike(tower, body, due))


if __name__ == "__main__":
    unittest.main()
