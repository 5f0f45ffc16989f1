import itertools
import random
import unittest

from tests.chance import Chance
from tests.plainly import Plain, Refused, row_of
from tests.refusals import RefusalTest
from tests.samples import TOWER, call, ground, hole, let, letters, lit, loop, made, name, nested, num, plus, use
from tests.tongues_made import LAG, LIT, LOW, NUM, form, function, part, term, tongue
from tonguetower.errors import NoFunction, TooLong, TowerError, Twice
from tonguetower.joining import joined, linked, ran_joined
from tonguetower.laying import MAKING, PARTS
from tonguetower.making import made_part
from tonguetower.runs import MOST, ran
from tonguetower.towers import face_of, look_tower

X, Y = name("x"), name("y")
ONE = (("x", "n"),)


def t(head, *things):
    return use("t", head, *things)


def u(head, *things):
    return use("u", head, *things)


def made_all(tower):
    """All parts of a tower, made."""
    return [made_part(tower, item[1]) for item in tower if item[0] == "part"]


def program(tower):
    return joined(made_all(tower))


def empty(called):
    return ("made", called, "ground", ())


class JoinedTest(RefusalTest):
    def test_rising_by_names(self):
        some = made_all(TOWER)
        self.assertEqual([one[1] for one in some], ["lib", "mid"])
        due = ("program", tuple(some))
        self.assertEqual(joined(some), due)
        self.assertEqual(joined(some[::-1]), due)
        self.assertEqual(joined(tuple(some)), due)
        self.assertEqual(joined(some=some), due)
        names = ["b", "ab", "aa", "z", "abc", "a"]
        told = joined([empty(one) for one in names])
        self.assertEqual(told, ("program", tuple([empty(one) for one in sorted(names)])))

    def test_none_and_one(self):
        self.assertEqual(joined([]), ("program", ()))
        self.assertEqual(joined(()), ("program", ()))
        self.assertEqual(joined([empty("a")]), ("program", (empty("a"),)))

    def test_twice(self):
        other = ("made", "a", "t", (("f", (), num(1), ((0, False, (0,)),)),))
        for some in itertools.permutations([empty("a"), other, empty("b")]):
            self.refused(Twice, {"name": "a"}, joined, some)
        self.refused(Twice, {"name": "a"}, joined, [empty("a"), empty("a")])
        self.refused(Twice, {"name": "b"}, joined, [empty(one) for one in "abcba"])
        self.refused(Twice, {"name": "a"}, joined, [empty(one) for one in "zabaz"])
        self.refused(Twice, {"name": "c"}, joined, [empty(one) for one in "cbaccb"])
        self.assertTrue(issubclass(Twice, TowerError))

    def test_handed_in_stays(self):
        some = made_all(TOWER)[::-1]
        kept = list(some)
        told = joined(some)
        self.assertEqual(some, kept)
        some.clear()
        self.assertEqual(told, program(TOWER))


class LinkedTest(RefusalTest):
    def calls(self, **bodies):
        """A program of the ground's functions p.a, p.b .., by their bodies."""
        return program((LOW, part("p", "ground", *[function(f, NUM, body, "num") for f, body in bodies.items()])))

    def check(self, told, f, *others):
        found = linked(told, f)
        self.assertIsInstance(found, list)
        self.assertEqual(found[0], f)
        self.assertEqual(sorted(found[1:]), sorted(others))

    def test_none_some_one_twice_and_by_way_of_others(self):
        same = call("low.same", X)
        told = self.calls(
            a=num(1),
            b=same,
            c=plus(same, same),
            d=plus(call("p.a", X), call("p.c", call("p.a", X))),
            e=ground("IF", num(0), call("p.d", X), num(0)),
        )
        self.check(told, "p.a")
        self.check(told, "p.b", "low.same")
        self.check(told, "p.c", "low.same")
        self.check(told, "p.d", "p.a", "p.c", "low.same")
        self.check(told, "p.e", "p.a", "p.c", "p.d", "low.same")
        self.check(told, "low.same")

    def test_by_names_of_arguments(self):
        self.assertEqual(linked(program=self.calls(a=X), f="p.a"), ["p.a"])

    def test_a_call_that_a_meaning_makes(self):
        low = tongue(form("SAME", [term()], call("low.same", hole(0))), form("ID", [term()], hole(0)))
        functions = [function("f", ONE, t("SAME", X)), function("g", ONE, t("ID", call("p.f", X)))]
        told = program((LOW, low, part("p", "t", *functions)))
        self.check(told, "p.f", "low.same")
        self.check(told, "p.g", "p.f", "low.same")

    def test_what_is_run_at_making_alone(self):
        low = tongue(form("A", [LIT], num(made("low.div", lit(0)))))
        told = program((LOW, low, part("p", "t", function("f", (), t("A", 5)))))
        self.check(told, "p.f")

    def test_what_a_meaning_drops(self):
        low = tongue(form("DROP", [term(), term()], hole(1)))
        q = part("q", "t", function("f", ONE, X), function("g", ONE, X))
        tower = (low, q, part("p", "t", function("f", ONE, t("DROP", call("q.f", X), call("q.g", X)))))
        self.assertIs(look_tower(tower), True)
        self.check(program(tower), "p.f", "q.g")

    def test_refused(self):
        told = self.calls(a=X, b=call("p.a", X))
        for f in ("", "p", "p.", ".a", "a", "p.c", "q.a", "low.none", "p.a.a", "P.A", "p.b.", "p a"):
            self.refused(NoFunction, {"f": f}, linked, told, f)
        self.refused(NoFunction, {"f": "p.a"}, linked, ("program", ()), "p.a")
        self.assertTrue(issubclass(NoFunction, KeyError))

    def test_one_that_lacks(self):
        tower = (LOW, LAG, part("p", "ground", function("f", NUM, call("lag.far", X), "num")))
        some = made_all(tower)
        self.check(joined(some), "p.f", "lag.far", "low.div")
        self.refused(NoFunction, {"f": "low.div"}, linked, joined(some[1:]), "p.f")
        self.refused(NoFunction, {"f": "lag.far"}, linked, joined([some[0], some[2]]), "p.f")
        self.check(joined(some[1:]), "lag.slow")
        either = program((LOW, LAG, part("p", "ground", function("f", NUM, plus(call("lag.far", X), X), "num"))))
        alone = ("program", (either[1][2],))
        self.refused(NoFunction, {"f": "lag.far"}, linked, alone, "p.f")

    def test_parts_of_towers_that_stand_the_other_way_round(self):
        p, q = part("p", "ground", function("f", NUM, X, "num")), part("q", "ground", function("g", NUM, X, "num"))
        one = (q, part("p", "ground", function("f", NUM, call("q.g", X), "num")))
        other = (p, part("q", "ground", function("g", NUM, plus(num(1), call("p.f", X)), "num")))
        told = joined([made_part(one, "p"), made_part(other, "q")])
        self.check(told, "p.f", "q.g")
        self.check(told, "q.g", "p.f")
        self.refused(TooLong, {"most": 20000}, ran_joined, (), told, "p.f", [1])

    def test_told_anew(self):
        told = self.calls(a=X, b=call("p.a", X))
        linked(told, "p.b").clear()
        self.assertEqual(linked(told, "p.b"), ["p.b", "p.a"])


DIV = form("DIV", [term(), term()], ground("/", hole(0), hole(1)))
OVER = form("OVER", [term()], plus(num(1), call("low.div", hole(0))))
BOTH = (
    DIV,
    OVER,
    form("N", [LIT], num(lit(0))),
    form("TW", [term()], plus(hole(0), hole(0))),
    form("MADE", [LIT], num(made("low.div", lit(0)))),
    form("REP", [LIT, term()], loop(num(lit(0)), "a", hole(0), plus(name("a"), num(1)))),
    form("IF", [term(), term(), term()], ground("IF", hole(0), hole(1), hole(2))),
)
UP = (form("OVER", [term()], t("TW", t("OVER", hole(0)))), form("N", [LIT], t("N", lit(0))))
MORE = tongue(*UP, called="u", below="t", meaning="n", faults=("mad", "sad"), tells=("sad", "mad"))


class RanTest(RefusalTest):
    def tower(self, *functions, tongue_of="t"):
        low = (LOW, LAG, tongue(*BOTH, faults=("good", "bad"), tells=("bad", "good")), MORE)
        tower = (*low, part("q", "t", function("q", ONE, t("DIV", t("N", 7), X))), part("p", tongue_of, *functions))
        self.assertIs(look_tower(tower), True)
        return tower

    def check(self, body, numbers, due, tongue_of="t"):
        tower = self.tower(function("e", ONE, X), function("f", ONE, body), tongue_of=tongue_of)
        self.assertEqual(ran_joined(tower, program(tower), "p.f", numbers), due)
        self.assertEqual(ran(tower, "p.f", numbers), due)

    def test_numbers_and_turns(self):
        self.check(X, [5], ("told", 5, 0))
        self.check(t("N", 3), (5,), ("told", 3, 1))
        self.check(t("TW", X), [600], ("told", 200, 1))
        self.check(call("p.e", call("p.e", X)), [7], ("told", 7, 2))
        self.check(t("OVER", X), [5], ("told", 3, 5))
        self.check(t("REP", 5, X), [5], ("told", 10, 12))
        self.check(t("MADE", 5), [5], ("told", 2, 1))

    def test_faults_where_they_were_written(self):
        self.check(t("TW", t("DIV", t("N", 3), X)), [0], ("fault", "bad", "p.f", 1, 3))
        self.check(t("TW", call("q.q", X)), [0], ("fault", "bad", "q.q", 0, 4))
        self.check(t("TW", t("OVER", t("TW", X))), [0], ("fault", "bad", "p.f", 1, 7))
        self.check(t("TW", t("OVER", call("q.q", X))), [0], ("fault", "bad", "q.q", 0, 7))
        self.check(u("OVER", X), [0], ("fault", "mad", "p.f", 0, 6), tongue_of="u")
        self.check(u("OVER", u("OVER", X)), [0], ("fault", "mad", "p.f", 1, 10), tongue_of="u")

    def test_in_the_ground(self):
        tower = (LOW, LAG)
        told = program(tower)
        self.assertEqual(ran_joined((), told, "low.want", [0]), ("fault", "need", "low.want", 0, 1))
        self.assertEqual(ran_joined((), told, "lag.far", [0]), ("fault", "nought", "low.div", 0, 5))
        self.assertEqual(ran_joined((), told, "low.sum", (998, 5)), ("told", 3, 1))

    def test_let_and_loop(self):
        body = loop(num(3), "a", X, let("x", plus(X, name("a")), ground("-", X, num(1))))
        tower = (part("p", "ground", function("f", NUM, body, "num")),)
        for number in (0, 1, 2, 999):
            self.assertEqual(ran_joined((), program(tower), "p.f", [number]), ran(tower, "p.f", [number]))

    def test_made_and_joined_in_any_order(self):
        functions = [function("e", ONE, t("OVER", X)), function("f", ONE, t("DIV", call("p.e", X), call("q.q", X)))]
        tower = self.tower(*functions)
        names = ["low", "lag", "q", "p"]
        found = []
        for row in itertools.permutations(names):
            told = joined([made_part(tower, one) for one in row])
            found.append([ran_joined(tower, told, "p.f", [number]) for number in (0, 1, 3, 8, 999)])
        self.assertEqual(found, [[ran(tower, "p.f", [number]) for number in (0, 1, 3, 8, 999)]] * 24)

    def test_made_by_faces(self):
        tower = self.tower(function("f", ONE, t("DIV", t("OVER", X), call("q.q", X))))
        faces = [item if item[0] == "tongue" else face_of(item) for item in tower]
        some = []
        for at, item in enumerate(tower):
            if item[0] == "part":
                some.append(made_part((*faces[:at], item, *faces[at + 1 :]), item[1]))
        self.assertEqual(joined(some), program(tower))
        for number in (0, 2, 9):
            self.assertEqual(ran_joined(tower, joined(some), "p.f", [number]), ran(tower, "p.f", [number]))

    def test_by_the_program_alone(self):
        tower = self.tower(function("f", ONE, t("TW", call("q.q", X))))
        told = program(tower)
        due = ran(tower, "p.f", [0])
        tongues = tuple([item for item in tower if item[0] == "tongue"])
        other = part("q", "t", function("q", (("x", "n"), ("y", "n")), Y))
        for items in (tongues, (*tower[:4], other), (*tongues, face_of(tower[4])), (LOW, LAG, *tongues)):
            self.assertEqual(ran_joined(items, told, "p.f", [0]), due)
            self.assertEqual(ran_joined(items, told, "q.q", [3]), ("told", 2, 2))
        low = tongue(*BOTH, faults=("one", "two"), tells=("one", "two"))
        self.assertEqual(ran_joined((low,), told, "p.f", [0]), ("fault", "one", *due[2:]))

    def test_one_that_lacks(self):
        forms = self.tower()[:4]
        inner = t("IF", X, t("TW", X), call("q.q", X))
        tower = (*forms, part("q", "t", function("q", ONE, X)), part("p", "t", function("f", ONE, inner)))
        some = made_all(tower)
        alone = joined([one for one in some if one[1] == "p"])
        # Also where the run would never come to the call.
        for number in (0, 1):
            self.refused(NoFunction, {"f": "q.q"}, ran_joined, tower, alone, "p.f", [number])
        self.refused(NoFunction, {"f": "q.q"}, ran_joined, tower, alone, "p.f", [1], most=1)
        self.refused(NoFunction, {"f": "p.g"}, ran_joined, tower, alone, "p.g", [1])
        self.refused(NoFunction, {"f": "low.same"}, ran_joined, tower, ("program", ()), "low.same", [1])
        self.assertEqual(ran_joined(tower, joined(some), "p.f", [1]), ("told", 2, 2))

    def test_one_that_lacks_but_ran_at_making_alone(self):
        tower = self.tower(function("f", ONE, t("TW", t("MADE", 5))))
        alone = joined([made_part(tower, "p")])
        self.assertEqual(ran_joined(tower, alone, "p.f", [1]), ("told", 4, 3))
        over = self.tower(function("f", ONE, t("OVER", X)))
        self.refused(NoFunction, {"f": "low.div"}, ran_joined, over, joined([made_part(over, "p")]), "p.f", [1])

    def test_most(self):
        tower = self.tower(function("f", ONE, t("TW", t("OVER", X))))
        told = program(tower)
        turns = ran(tower, "p.f", [5])[2]
        self.assertEqual(turns, 11)
        self.assertEqual(ran_joined(tower=tower, program=told, f="p.f", args=[5], most=turns), ("told", 6, turns))
        for most in range(1, turns):
            self.refused(TooLong, {"most": most}, ran_joined, tower, told, "p.f", [5], most=most)
        with self.assertRaises(TypeError):
            ran_joined(tower, told, "p.f", [5], 100)

    def test_most_by_default(self):
        self.assertEqual((MOST, MAKING, PARTS), (20000, 5000, 3000))
        body = loop(num(999), "a", num(1), loop(X, "b", num(1), plus(name("b"), num(1))))
        told = program((part("p", "ground", function("f", NUM, body, "num")),))
        self.assertEqual(ran_joined((), told, "p.f", [9])[2], 3 + 999 * 20)
        self.refused(TooLong, {"most": 20000}, ran_joined, (), told, "p.f", [10])

    def test_deep_calls(self):
        functions = [function(letters(0), NUM, X, "num")]
        for at in range(1, 700):
            body = plus(num(1), call(f"p.{letters(at - 1)}", X))
            functions.append(function(letters(at), NUM, body, "num"))
        told = program((part("p", "ground", *functions),))
        self.assertEqual(ran_joined((), told, f"p.{letters(699)}", [5]), ("told", 704, 699 * 3))
        self.assertEqual(len(linked(told, f"p.{letters(699)}")), 700)

    def test_deep_bodies(self):
        body = nested(40, X, lambda inner, at: plus(inner, num(1)))
        told = program((part("p", "ground", function("f", NUM, body, "num")),))
        self.assertEqual(ran_joined((), told, "p.f", [1]), ("told", 41, 80))

    def test_handed_in_stays(self):
        tower = self.tower(function("f", ONE, t("OVER", X)))
        told = program(tower)
        numbers = [5]
        first = ran_joined(tower, told, "p.f", numbers)
        self.assertEqual(numbers, [5])
        ran_joined(tower, told, "q.q", [0])
        self.assertEqual(ran_joined(tower, told, "p.f", numbers), first)
        self.assertEqual(told, program(tower))

    def test_by_chance(self):
        told = {"told": 0, "fault": 0, "long": 0}
        for seed in range(700, 760):
            rng = random.Random(seed)
            tower = Chance(rng).good_tower()
            some = [row_of(made_part, tower, item[1]) for item in tower if item[0] == "part"]
            some = [one for one in some if one[0] == "made"]
            rng.shuffle(some)
            self.check_all(rng, Plain(tower), joined(some), told)
        self.assertGreater(told["told"], 100, told)
        self.assertGreater(told["fault"], 20, told)
        self.assertGreater(told["long"], 5, told)

    def check_all(self, rng, plain, found, told):
        for one in found[1]:
            for f, params, _, _ in one[3]:
                f = f"{one[1]}.{f}"
                numbers = [rng.choice([0, 1, 2, 7, 999]) for _ in params]
                most = rng.choice([MOST, 3, 20])
                due = plain.ran(f, numbers, most)
                if self.lacks(plain, found, f):
                    with self.assertRaises(NoFunction):
                        linked(found, f)
                    with self.assertRaises(NoFunction):
                        ran_joined(plain.tower, found, f, numbers, most=most)
                    continue
                told[due[0]] += 1
                self.assertEqual(row_of(ran_joined, plain.tower, found, f, numbers, most=most), due)
                self.check_linked(plain, found, f)

    def lacks(self, plain, found, f):
        """Whether a part wasn't made that a run of a function may call."""
        try:
            calls = plain.lay_ahead(f)
        except Refused:
            return True
        names = [one[1] for one in found[1]]
        return any([call.split(".")[0] not in names for call in calls])

    def check_linked(self, plain, found, f):
        names = linked(found, f)
        self.assertEqual(names[0], f)
        self.assertEqual(sorted(names), sorted(plain.lay_ahead(f)))


if __name__ == "__main__":
    unittest.main()
