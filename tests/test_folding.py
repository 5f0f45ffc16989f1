import random
import unittest

from tests.chance import Chance
from tests.samples import (
    DUO,
    REST,
    TRIO,
    call,
    choose,
    ground,
    hole,
    let,
    lit,
    made,
    name,
    nested,
    num,
    own,
    plus,
    times,
    turn,
    use,
)
from tests.tongues_made import LIT, LOW, NAME, form, function, part, term, tongue
from tonguetower.errors import NoFold, NoTongue, TooBig, TowerError
from tonguetower.folding import folded
from tonguetower.meanings import meaning_parts
from tonguetower.need import ran_by_need
from tonguetower.runs import ran, seen
from tonguetower.tonguelook import look_tongue
from tonguetower.towers import look_tower

X = name("x")


def t(head, *things):
    return use("t", head, *things)


def u(head, *things):
    return use("u", head, *things)


def up(*forms, **more):
    """A tongue u on t."""
    return tongue(*forms, **{"called": "u", "below": "t", "meaning": "n", **more})


def renumbered(meaning):
    """A meaning with its own names told in the order in which they first stand."""
    found = {}

    def told(thing, inside=False):
        if isinstance(thing, str) and inside:
            return found.setdefault(thing, f"#{len(found)}")
        if not isinstance(thing, tuple):
            return thing
        if thing[0] in ("use", "call", "choose", "name"):
            skip = 3 if thing[0] == "use" else 2 if thing[0] == "call" else 1
            rest = thing[skip:]
            if thing[0] == "name":
                return ("name", told(thing[1], True))
            if thing[0] == "choose":
                return ("choose", thing[1], tuple([told(one) for one in thing[2]]))
            return (*thing[:skip], tuple([told(one, True) for one in rest[0]]))
        if thing[0] == "times":
            return ("times", thing[1], told(thing[2]), told(thing[3]))
        return thing

    return told(meaning)


TW = form("TW", [term()], plus(hole(0), hole(0)))
DROP = form("DROP", [term(), term()], hole(0))
SET = form("SET", [NAME, term(), term(0)], let(own(0), hole(0), hole(1)))
MY = form("MY", [term()], let("t", num(1), plus(hole(0), name("t"))))
N = form("N", [LIT], num(lit(0)))
REP = form("REP", [LIT, term(), term()], times(lit(0), hole(0), plus(hole(1), REST)))


class FoldTest(unittest.TestCase):
    def told(self, low, high, ahead=(LOW,)):
        """What a form's meaning comes to; the folded tongue is let by in its place."""
        tower = (*ahead, tongue(*low), up(high))
        self.assertIs(look_tower(tower), True)
        found = folded(tower, "u")
        self.assertIs(look_tongue(tower[:-1], found), True)
        self.assertEqual(found[:3], ("tongue", "u", "ground"))
        self.assertEqual(found[6][0][:3], high[:3])
        return found[6][0][3]

    def check(self, low, high, due, **more):
        self.assertEqual(renumbered(self.told(low, high, **more)), renumbered(due))

    def refused(self, low, highs, word, head, ahead=(LOW,)):
        tower = (*ahead, tongue(*low), up(*highs))
        self.assertIs(look_tower(tower), True)
        with self.assertRaises(NoFold) as caught:
            folded(tower, "u")
        self.assertEqual((caught.exception.word, caught.exception.head), (word, head))
        self.assertIsInstance(caught.exception, TowerError)

    def test_holes(self):
        self.check([TW], form("A", [term()], hole(0)), hole(0))
        self.check([TW], form("A", [term()], t("TW", hole(0))), plus(hole(0), hole(0)))
        self.check(
            [TW], form("A", [term()], t("TW", t("TW", hole(0)))), plus(plus(hole(0), hole(0)), plus(hole(0), hole(0)))
        )
        self.check([DROP, N], form("A", [term(), term()], t("DROP", hole(1), hole(0))), hole(1))
        self.check([DROP, N], form("A", [term()], t("DROP", t("N", 3), hole(0))), num(3))

    def test_literals_in_literals(self):
        self.check([N], form("A", [LIT, LIT], t("N", lit(1))), num(lit(1)))
        self.check([N], form("A", [], t("N", 7)), num(7))
        low = form("K", [LIT, LIT], num(made("low.sum", lit(1), made("low.same", lit(0)))))
        self.check([low], form("A", [LIT], t("K", 4, lit(0))), num(made("low.sum", lit(0), made("low.same", 4))))
        high = form("A", [LIT], t("K", made("low.div", lit(0)), made("low.same", made("low.same", 2))))
        due = num(made("low.sum", made("low.same", made("low.same", 2)), made("low.same", made("low.div", lit(0)))))
        self.check([low], high, due)
        pick = form("P", [LIT, term(), term()], choose(lit(0), hole(1), hole(0)))
        self.check([pick], form("A", [LIT, term()], t("P", lit(0), hole(0), hole(0))), choose(lit(0), hole(0), hole(0)))

    def test_names(self):
        high = form("A", [NAME, term(), term(0)], t("SET", own(0), hole(0), hole(1)))
        self.check([SET], high, let(own(0), hole(0), hole(1)))
        high = form("A", [term()], t("SET", "q", hole(0), name("q")))
        self.check([SET], high, let("a", hole(0), name("a")))
        high = form(
            "A",
            [
                NAME,
                NAME,
                term(
                    1,
                ),
            ],
            t("SET", own(1), t("N", 1), t("SET", own(0), name(own(1)), hole(0))),
        )
        self.check([SET, N], high, let(own(1), num(1), let(own(0), name(own(1)), hole(0))))

    def test_new_names_that_catch_nothing(self):
        self.check([MY], form("A", [term()], t("MY", hole(0))), let("a", num(1), plus(hole(0), name("a"))))
        self.check(
            [MY],
            form("A", [term()], t("MY", t("MY", hole(0)))),
            let("a", num(1), plus(let("b", num(1), plus(hole(0), name("b"))), name("a"))),
        )
        high = form("A", [term()], t("SET", "t", hole(0), t("MY", name("t"))))
        self.check([SET, MY], high, let("a", hole(0), let("b", num(1), plus(name("a"), name("b")))))
        high = form("A", [term()], t("SET", "a", hole(0), t("TW", t("SET", "b", name("a"), name("b")))))
        inner = [let(x, name("a"), name(x)) for x in ("b", "c")]
        self.check([SET, TW], high, let("a", hole(0), plus(*inner)))

    def test_a_name_that_its_meaning_binds_twice_or_never(self):
        two = form("TWO", [NAME, term(0), term(0)], plus(let(own(0), num(1), hole(0)), let(own(0), num(2), hole(1))))
        self.check(
            [two],
            form("A", [NAME, term(0)], t("TWO", own(0), hole(0), name(own(0)))),
            plus(let(own(0), num(1), hole(0)), let(own(0), num(2), name(own(0)))),
        )
        self.check(
            [two],
            form("A", [], t("TWO", "q", name("q"), name("q"))),
            plus(let("a", num(1), name("a")), let("b", num(2), name("b"))),
        )
        never = form("NEV", [NAME, term()], hole(0))
        self.check([never], form("A", [NAME, term()], t("NEV", own(0), t("NEV", own(0), hole(0)))), hole(0))

    def test_choose_and_times(self):
        high = form("A", [LIT, term()], choose(lit(0), hole(0), t("TW", hole(0))))
        self.check([TW], high, choose(lit(0), hole(0), plus(hole(0), hole(0))))
        high = form("A", [LIT, term()], times(lit(0), hole(0), t("ADD", REST, t("N", turn(0)))))
        add = form("ADD", [term(), term()], plus(hole(1), hole(0)))
        self.check([add, N], high, times(lit(0), hole(0), plus(num(turn(0)), REST)))
        self.check(
            [REP, N],
            form("A", [LIT], t("REP", lit(0), t("N", 0), t("N", 1))),
            times(lit(0), num(0), plus(num(1), REST)),
        )

    def test_turns_through_what_is_now_around(self):
        # The hole of REP stands in a step: what is in it counts one more.
        add = form("ADD", [term(), term()], plus(hole(0), hole(1)))
        high = form("A", [], times(3, t("N", 0), t("ADD", t("REP", turn(0), t("N", turn(0)), t("N", turn(0))), REST)))
        inner = times(turn(0), num(turn(0)), plus(num(turn(1)), REST))
        self.check([REP, N, add], high, times(3, num(0), plus(inner, REST)))
        low = form("OWN", [LIT], times(2, num(lit(0)), plus(num(turn(0)), plus(num(lit(0)), REST))))
        high = form("A", [], times(4, t("N", 9), t("ADD", t("OWN", turn(0)), REST)))
        inner = times(2, num(turn(0)), plus(num(turn(0)), plus(num(turn(1)), REST)))
        self.check([low, N, add], high, times(4, num(9), plus(inner, REST)))
        high = form("A", [], times(4, t("N", 9), t("ADD", t("OWN", made("low.same", turn(0))), REST)))
        inner = times(2, num(made("low.same", turn(0))), plus(num(turn(0)), plus(num(made("low.same", turn(1))), REST)))
        self.check([low, N, add], high, times(4, num(9), plus(inner, REST)))

    def test_a_whole_times_in_a_hole(self):
        inner = times(2, t("N", 0), t("ADD", t("N", turn(0)), REST))
        add = form("ADD", [term(), term()], plus(hole(0), hole(1)))
        due = times(2, num(0), plus(num(turn(0)), REST))
        self.check([TW, N, add], form("A", [], t("TW", inner)), plus(due, due))
        self.check([REP, N, add], form("A", [], t("REP", 3, inner, inner)), times(3, due, plus(due, REST)))

    def test_a_rest_in_a_base(self):
        low = form("B", [term()], times(2, hole(0), num(1)))
        self.check([low, N], form("A", [], times(5, t("N", 0), t("B", REST))), times(5, num(0), times(2, REST, num(1))))

    def test_calls_of_the_tongue_beneath(self):
        low = form("C", [term()], call("low.sum", hole(0), num(2)))
        self.check(
            [low],
            form("A", [term()], t("C", t("C", hole(0)))),
            call("low.sum", call("low.sum", hole(0), num(2)), num(2)),
        )

    def test_on_the_ground(self):
        tower = (LOW, tongue(form("C", [], call("low.sum", num(1), num(2)))), up())
        with self.assertRaises(NoFold) as caught:
            folded(tower, "t")
        self.assertEqual((caught.exception.word, caught.exception.head), ("ground", ""))
        self.assertEqual(folded(tower=tower, name="u")[:3], ("tongue", "u", "ground"))

    def test_call(self):
        p = part("p", "t", function("f", (("x", "n"),), X))
        for meaning in (
            call("p.f", hole(0)),
            t("TW", t("TW", call("p.f", hole(0)))),
            t("DROP", hole(0), call("p.f", hole(0))),
            choose(0, hole(0), call("p.f", hole(0))),
            times(0, hole(0), call("p.f", hole(0))),
            call("p.f", t("TW", call("p.f", hole(0)))),
        ):
            tower = (tongue(TW, DROP), p, up(form("A", [term()], hole(0)), form("B", [term()], meaning)))
            self.assertIs(look_tower(tower), True)
            with self.assertRaises(NoFold) as caught:
                folded(tower, "u")
            self.assertEqual((caught.exception.word, caught.exception.head), ("call", "B"))

    def test_what_is_run_at_making_is_no_call(self):
        p = part("p", "t", function("f", (("x", "n"),), X))
        tower = (tongue(N), p, up(form("A", [LIT], t("N", made("p.f", lit(0))))))
        self.assertEqual(folded(tower, "u")[6][0][3], num(made("p.f", lit(0))))

    # A hole that isn't opened to the name that is bound around it in the meaning.
    CLOSED = form("CL", [NAME, term(0), term()], let(own(0), num(1), plus(hole(0), hole(1))))

    def test_bind(self):
        inner = t("SET", own(0), t("N", 1), hole(0))
        high = form("A", [NAME, term(0)], t("CL", own(0), hole(0), inner))
        self.refused([self.CLOSED, SET, N], [high], "bind", "A")
        other = form(
            "A", [NAME, NAME, term(0), term(1)], t("CL", own(0), hole(0), t("SET", own(1), t("N", 1), hole(1)))
        )
        self.told([self.CLOSED, SET, N], other)
        texts = form("A", [], t("CL", "q", name("q"), t("SET", "q", t("N", 1), name("q"))))
        due = let("a", num(1), plus(name("a"), let("b", num(1), name("b"))))
        self.check([self.CLOSED, SET, N], texts, due)

    def test_bind_in_what_is_left_out(self):
        inner = t("SET", own(0), t("N", 1), hole(0))
        pick = form("P", [NAME, term(0), term()], choose(0, num(1), let(own(0), num(1), plus(hole(0), hole(1)))))
        high = form("A", [NAME, term(0)], t("P", own(0), hole(0), inner))
        self.refused([pick, SET, N], [high], "bind", "A")
        high = form("A", [NAME, term(0)], choose(0, t("N", 1), t("CL", own(0), hole(0), inner)))
        self.refused([self.CLOSED, SET, N], [high], "bind", "A")

    def test_what_is_dropped_binds_nothing(self):
        inner = t("SET", own(0), t("N", 1), hole(0))
        high = form("A", [NAME, term(0)], t("DROP", t("N", 1), t("CL", own(0), hole(0), inner)))
        self.check([self.CLOSED, SET, N, DROP], high, num(1))

    def test_rest(self):
        add = form("ADD", [term(), term()], plus(hole(0), hole(1)))

        def step(meaning, base=t("N", 0)):
            return form("A", [], times(3, base, meaning))

        self.refused([TW, N], [step(t("TW", REST))], "rest", "A")
        self.refused([TW, N], [step(t("TW", t("TW", REST)))], "rest", "A")
        self.refused([REP, N], [step(t("REP", 2, t("N", 0), REST))], "rest", "A")
        both = form("P", [term()], choose(0, hole(0), hole(0)))
        self.refused([both, N], [step(t("P", REST))], "rest", "A")
        pick = form("P", [term()], choose(0, num(1), times(3, num(0), hole(0))))
        self.refused([pick, N], [step(t("P", REST))], "rest", "A")
        self.refused(
            [TW, N, add],
            [form("A", [], choose(0, t("N", 0), times(3, t("N", 1), t("ADD", t("N", 1), t("TW", REST)))))],
            "rest",
            "A",
        )
        self.check([DROP, N], step(t("DROP", t("N", 1), REST)), times(3, num(0), num(1)))
        self.check([DROP, N], step(t("DROP", REST, t("N", 1))), times(3, num(0), REST))

    def test_of_one_form_and_form_by_form(self):
        p = part("p", "t", function("f", (), t("N", 1)))
        inner = t("SET", own(0), t("N", 1), hole(0))
        bind = t("CL", own(0), hole(0), inner)
        rest = times(2, t("N", 0), t("TW", REST))
        low = tongue(self.CLOSED, SET, N, TW)

        def told(*highs):
            tower = (low, p, up(*highs))
            self.assertIs(look_tower(tower), True)
            with self.assertRaises(NoFold) as caught:
                folded(tower, "u")
            return (caught.exception.word, caught.exception.head)

        def all_of(*some):
            return choose(0, *some)

        items = [NAME, term(0)]
        calls = call("p.f")
        self.assertEqual(told(form("A", items, all_of(rest, bind, calls))), ("call", "A"))
        self.assertEqual(told(form("A", items, all_of(rest, bind))), ("bind", "A"))
        self.assertEqual(told(form("A", items, all_of(bind, rest))), ("bind", "A"))
        self.assertEqual(told(form("A", items, all_of(bind, calls))), ("call", "A"))
        self.assertEqual(told(form("A", items, rest), form("B", items, calls)), ("rest", "A"))
        self.assertEqual(told(form("A", items, bind), form("B", items, calls)), ("bind", "A"))
        self.assertEqual(
            told(form("A", items, t("N", 1)), form("B", items, rest), form("C", items, bind)), ("rest", "B")
        )
        with self.assertRaises(NoFold) as caught:
            folded((tongue(called="t"), up(called="u", below="ground", meaning="num")), "u")
        self.assertEqual(caught.exception.word, "ground")


class WholeTest(unittest.TestCase):
    def test_kinds_and_tells_told_through(self):
        self.assertEqual(
            folded((DUO, TRIO), "trio"),
            (
                "tongue",
                "trio",
                "ground",
                (("m", "num"), ("t", "num")),
                ("gone", "bad"),
                ("gone", "bad"),
                (
                    ("ONE", (), "m", num(1)),
                    ("IS", (("term", "m", ()), ("term", "m", ())), "t", ground("<", hole(0), hole(1))),
                ),
            ),
        )
        quad = ("tongue", "quad", "trio", (("k", "m"), ("l", "t")), ("end", "fin"), ("fin", "end"), ())
        told = folded((DUO, TRIO, quad), "quad")
        self.assertEqual(told, ("tongue", "quad", "duo", (("k", "n"), ("l", "b")), ("end", "fin"), ("end", "fin"), ()))

    def test_tells_of_many_faults(self):
        low = tongue(faults=("a", "b", "c"), tells=("c", "a"))
        high = up(faults=("x", "y"), tells=("x", "y", "x"))
        self.assertEqual(folded((low, high), "u")[4:6], (("x", "y"), ("x", "x")))
        high = up(faults=("x", "y"), tells=("x", "y", "y"))
        self.assertEqual(folded((low, high), "u")[5], ("y", "x"))

    def test_by_name_again_and_unchanged(self):
        tower = (tongue(TW, N), up(form("A", [LIT], t("TW", t("N", lit(0))))))
        first = folded(tower=tower, name="u")
        self.assertEqual(folded(tower, "u"), first)
        self.assertEqual(first[6], (("A", (LIT,), "n", plus(num(lit(0)), num(lit(0)))),))
        self.assertEqual(tower, (tongue(TW, N), up(form("A", [LIT], t("TW", t("N", lit(0)))))))

    def test_runs_tell_what_they_told(self):
        low = tongue(TW, SET, N, form("DIV", [term(), term()], ground("/", hole(0), hole(1))), REP, MY)
        high = up(
            form("SQ", [term()], t("SET", "q", hole(0), t("TW", name("q")))),
            form("REP", [LIT, term()], t("REP", lit(0), t("N", 0), t("MY", hole(0)))),
            form("LET", [NAME, term(), term(0)], t("SET", own(0), t("MY", hole(0)), hole(1))),
            form("OVER", [term(), term()], t("DIV", hole(0), t("TW", hole(1)))),
            faults=("oops",),
            tells=("oops", "oops"),
        )
        body = u("LET", "x", u("SQ", X), u("REP", 3, u("OVER", X, name("y"))))
        user = part("p", "u", function("f", (("x", "n"), ("y", "n")), body))
        tower = (low, high, user)
        new = (low, folded(tower, "u"), user)
        self.assertIs(look_tower(new), True)
        for numbers in ((1, 1), (999, 3), (5, 0), (0, 7), (0, 0)):
            self.assertEqual(ran(new, "p.f", numbers), ran(tower, "p.f", numbers))
            self.assertEqual(seen(new, "p.f", numbers), seen(tower, "p.f", numbers))
            self.assertEqual(ran_by_need(new, "p.f", numbers), ran(tower, "p.f", numbers))
        self.assertEqual(ran(new, "p.f", (5, 0))[:2], ("fault", "oops"))


class TwiceTest(unittest.TestCase):
    def test_folded_twice(self):
        high = up(form("A", [NAME, term(), term(0)], t("SET", own(0), t("TW", hole(0)), t("MY", hole(1)))))
        top = tongue(
            form("B", [term()], u("A", "q", hole(0), u("A", "r", name("q"), name("r")))),
            called="v",
            below="u",
            meaning="n",
        )
        tower = (tongue(TW, SET, MY), high, top)
        self.assertIs(look_tower(tower), True)
        once = (*tower[:2], folded(tower, "v"))
        self.assertEqual(once[2][2], "t")
        twice = (*tower[:2], folded(once, "v"))
        self.assertEqual(twice[2][2], "ground")
        self.assertIs(look_tower(twice), True)
        by_low = (tower[0], folded(tower, "u"), top)
        other = (*by_low[:2], folded(by_low, "v"))
        self.assertEqual(renumbered(other[2][6][0][3]), renumbered(twice[2][6][0][3]))
        user = part("p", "v", function("f", (("x", "n"),), use("v", "B", use("v", "B", X))))
        due = ran((*tower, user), "p.f", [5])
        for towers in (once, twice, other):
            self.assertEqual(ran((*towers, user), "p.f", [5]), due)

    def test_hundreds_of_uses_deep(self):
        def row(tongue_of, inner):
            return nested(8, inner, lambda told, at: use(tongue_of, "IN", told))

        low = tongue(form("IN", [term()], nested(8, hole(0), lambda told, at: plus(num(1), told))))
        high = up(form("IN", [term()], row("t", hole(0))))
        top = tongue(form("IN", [term()], row("u", hole(0))), called="v", below="u", meaning="n")
        tower = (low, high, top)
        once = (low, high, folded(tower, "v"))
        twice = (low, high, folded(once, "v"))
        self.assertIs(look_tower(twice), True)
        self.assertEqual(len(meaning_parts(twice[2][6][0][3])), 2 * 8**3 + 1)
        user = part("p", "v", function("f", (("x", "n"),), use("v", "IN", X)))
        with self.assertRaises(TooBig):
            ran((*twice, user), "p.f", [1])
        self.assertEqual(ran_by_need((*twice, user), "p.f", [1])[:2], ("told", 513))

    def test_two_names_of_a_use_beneath(self):
        def s(head, *things):
            return use("s", head, *things)

        pair = form(
            "PAIR", [NAME, NAME, term(), term(), term(0, 1)], let(own(0), hole(0), let(own(1), hole(1), hole(2)))
        )
        low = tongue(pair, form("MIN", [term(), term()], ground("-", hole(0), hole(1))), called="s")
        both = form("MIN", [term(), term()], s("PAIR", "a", "b", hole(0), hole(1), s("MIN", name("a"), name("b"))))
        opened = s("PAIR", own(1), own(0), hole(0), hole(1), hole(2))
        mid = tongue(both, form("OPEN", [NAME, NAME, term(), term(), term(0, 1)], opened), below="s", meaning="n")
        high = up(
            form("A", [term(), term()], t("MIN", hole(1), hole(0))),
            form("B", [NAME, NAME, term(), term(0, 1)], t("OPEN", own(1), own(0), hole(0), hole(0), hole(1))),
        )
        tower = (low, mid, high)
        self.assertIs(look_tower(tower), True)
        found = folded(tower, "u")
        self.assertIs(look_tower((low, mid, found)), True)
        due = s("PAIR", "p", "q", hole(1), hole(0), s("MIN", name("p"), name("q")))
        self.assertEqual(renumbered(found[6][0][3]), renumbered(due))
        self.assertEqual(found[6][1][3], s("PAIR", own(0), own(1), hole(0), hole(0), hole(1)))
        body = u("A", X, u("B", "c", "d", u("A", X, X), u("A", name("c"), name("d"))))
        user = part("p", "u", function("f", (("x", "n"),), body))
        self.assertEqual(ran((low, mid, found, user), "p.f", [5]), ran((*tower, user), "p.f", [5]))

    def test_numbers_hundreds_deep(self):
        row = nested(750, lit(0), lambda inner, at: made("low.sum", inner, 1))
        tower = (LOW, tongue(form("ROW", [LIT], num(row))), up(form("ROW", [LIT], t("ROW", row))))
        found = folded(tower, "u")
        self.assertIs(look_tower((*tower[:2], found)), True)
        user = part("p", "u", function("f", (), u("ROW", 7)))
        self.assertEqual(ran((*tower[:2], found, user), "p.f", []), ("told", 507, 1))

    def test_two_times_within_one_another(self):
        add = form("ADD", [term(), term()], plus(hole(0), hole(1)))
        high = up(
            form(
                "A", [LIT], times(lit(0), t("N", 0), t("ADD", t("REP", turn(0), t("N", turn(0)), t("N", lit(0))), REST))
            )
        )
        user = part("p", "u", *[function(f, (), u("A", k)) for k, f in enumerate("abcdefghij")])
        tower = (tongue(REP, N, add), high, user)
        new = (tower[0], folded(tower, "u"), user)
        self.assertIs(look_tower(new), True)
        for f in "abcdefghij":
            self.assertEqual(ran(new, f"p.{f}", []), ran(tower, f"p.{f}", []))


class ChanceTest(unittest.TestCase):
    """Tongues by chance, folded: let by in their place, and runs tell what they told."""

    def test_any_towers(self):
        told = {"folded": 0, "ran": 0, "call": 0, "ground": 0, "bind": 0, "rest": 0}
        for seed in range(300, 330):
            chance = Chance(random.Random(seed), calls=seed % 3 == 0)
            tower = chance.good_tower()
            for at, item in enumerate(tower):
                if item[0] == "tongue":
                    try:
                        found = folded(tower, item[1])
                    except NoFold as error:
                        told[error.word] += 1
                        continue
                    self.assertEqual([one[:3] for one in found[6]], [one[:3] for one in item[6]])
                    self.assertIs(look_tongue(tower[:at], found), True)
                    told["folded"] += 1
                    self.check(chance.chance, tower, (*tower[:at], found, *tower[at + 1 :]), told)
        self.assertGreater(told["folded"], 20)
        self.assertGreater(told["ran"], 200)
        self.assertGreater(told["ground"], 25)

    def check(self, rng, tower, new, told):
        self.assertIs(look_tower(new), True)
        for item in [item for item in tower if item[0] == "part"]:
            for one in item[3]:
                f = f"{item[1]}.{one[0]}"
                numbers = [rng.choice([0, 1, 2, 999]) for _ in one[1]]
                try:
                    due = ran(tower, f, numbers)
                except TowerError:
                    continue
                self.assertEqual(ran(new, f, numbers), due)
                self.assertEqual(seen(new, f, numbers), seen(tower, f, numbers))
                told["ran"] += 1


class NotFoldedTest(unittest.TestCase):
    def test_what_would_be_refused_isnt_let_by(self):
        # The name would stand twice around: a tongue of that meaning isn't let by.
        meaning = let(own(0), num(1), plus(hole(0), let(own(0), num(1), hole(0))))
        with self.assertRaises(NoTongue):
            look_tongue((), tongue(form("A", [NAME, term(0)], meaning)))


if __name__ == "__main__":
    unittest.main()
