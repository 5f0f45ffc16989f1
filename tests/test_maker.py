import inspect
import random
import unittest

from tests.chance import Chance
from tests.plainly import row_of
from tests.refusals import RefusalTest
from tests.samples import DUO, FAR, LIB, MID, QUAD, TOWER, TRIO, call, ground, hole, lit, loop, made, name, nested
from tests.samples import num, plus, times, use
from tests.tongues_made import LIT, NUM, form, function, part, term, tongue
from tonguetower.errors import NoItem, NoPart, NoTongue, NotMade, TooBig, TooLong, TowerError, Unmade
from tonguetower.joining import joined, ran_joined
from tonguetower.laying import PARTS
from tonguetower.maker import Maker
from tonguetower.making import made_part
from tonguetower.runs import MOST, ran
from tonguetower.stale import stale
from tonguetower.towers import face_of, look_tower

X = name("x")
ONE = (("x", "n"),)
BAD_PART = ("part", "lib", "none", ())
BAD_TONGUE = ("tongue", "new", "none", (), (), (), ())


def t(head, *things):
    return use("t", head, *things)


def filled(items, **more):
    """A maker that was put some items."""
    maker = Maker(**more)
    for item in items:
        maker.put(item)
    return maker


def state(maker):
    """All that a maker tells, but for its log."""
    return (maker.tower(), maker.made(), len(maker), maker.is_open())


class MakerTest(RefusalTest):
    def stays(self, maker, error, fields, tell, *some, logged=(), **more):
        """A call is refused, and the maker stands as it stood but for rows in its log."""
        before = state(maker)
        log = maker.log()
        self.refused(error, fields, tell, *some, **more)
        self.assertEqual(state(maker), before)
        self.assertIs(maker.is_open(), True)
        self.assertEqual(maker.log(), [*log, *logged])


class EmptyTest(MakerTest):
    def test_a_new_one(self):
        maker = Maker()
        self.assertEqual(state(maker), ((), (), 0, True))
        self.assertEqual(maker.log(), [])
        self.assertEqual(maker.make(), [])
        self.assertEqual(maker.log(), [("make", 0), ("end", 0)])
        self.refused(NotMade, {"f": "p.f"}, maker.run, "p.f", [])

    def test_made_by_name_alone(self):
        self.assertEqual(len(Maker(most=5)), 0)
        with self.assertRaises(TypeError):
            Maker(5)

    def test_methods_of_its_own(self):
        for word in ("put", "drop", "several", "make", "tower", "made", "run", "log", "is_open", "__len__"):
            self.assertIn(word, vars(Maker))

    def test_constants_as_defaults(self):
        for tell, most in ((Maker, PARTS), (made_part, PARTS), (Maker.run, MOST), (ran_joined, MOST)):
            parameter = inspect.signature(tell).parameters["most"]
            self.assertEqual((parameter.default, parameter.kind), (most, inspect.Parameter.KEYWORD_ONLY))
        parameter = inspect.signature(Maker.several).parameters["stay"]
        self.assertEqual((parameter.default, parameter.kind), (False, inspect.Parameter.KEYWORD_ONLY))


class PutTest(MakerTest):
    def test_last_or_in_its_place(self):
        maker = Maker()
        for many, item in enumerate(TOWER):
            self.assertIsNone(maker.put(item))
            self.assertEqual(maker.tower(), TOWER[: many + 1])
            self.assertEqual(len(maker), many + 1)
        other = (*LIB[:3], LIB[3][::-1])
        maker.put(item=other)
        self.assertEqual(maker.tower(), (DUO, TRIO, QUAD, other, MID, FAR))
        self.assertEqual(len(maker), 6)
        maker.put(face_of(MID))
        self.assertEqual(maker.tower(), (DUO, TRIO, QUAD, other, face_of(MID), FAR))
        names = ["duo", "trio", "quad", "lib", "mid", "far", "lib", "mid"]
        self.assertEqual(maker.log(), [("put", called) for called in names])
        self.assertIs(maker.is_open(), True)

    def test_a_part_in_a_faces_place(self):
        maker = filled((DUO, face_of(MID)))
        maker.put(MID)
        self.assertEqual(maker.tower(), (DUO, MID))

    def test_a_tongue_and_a_part_of_one_name(self):
        maker = filled((DUO,))
        maker.put(("part", "duo", "ground", ()))
        self.assertEqual(maker.tower(), (("part", "duo", "ground", ()),))

    def test_refused(self):
        maker = filled((DUO, LIB))
        self.stays(maker, NoPart, {"word": "tongue", "function": "", "at": -1}, maker.put, BAD_PART)
        self.stays(maker, NoTongue, {"word": "below", "head": "", "at": -1}, maker.put, BAD_TONGUE)
        self.stays(maker, NoTongue, {"word": "below", "head": "", "at": -1}, maker.put, QUAD)
        body = part("p", "ground", function("f", (), X, "num"))
        self.stays(maker, NoPart, {"word": "lost", "function": "f", "at": 0}, maker.put, body)
        name_taken = ("tongue", "ground", *DUO[2:])
        self.stays(maker, NoTongue, {"word": "name", "head": "", "at": -1}, maker.put, name_taken)

    def test_refused_by_one_behind(self):
        maker = filled((DUO, MID))
        less = (*DUO[:6], DUO[6][1:])
        self.stays(maker, NoPart, {"word": "form", "function": "inc", "at": 2}, maker.put, less)
        other = ("part", "duo", "ground", ())
        self.stays(maker, NoPart, {"word": "tongue", "function": "", "at": -1}, maker.put, other)
        maker.put(part("p", "duo", function("f", (("x", "n"),), call("mid.inc", X))))
        cut = (*MID[:3], MID[3][1:])
        self.stays(maker, NoPart, {"word": "call", "function": "f", "at": 0}, maker.put, cut)
        # The first that isn't let by: the item itself, ahead of those behind it.
        bad = (*MID[:3], (("is", (), "no", X),))
        self.stays(maker, NoPart, {"word": "gives", "function": "is", "at": -1}, maker.put, bad)

    def test_a_call_of_one_behind(self):
        maker = filled((LIB, part("p", "ground")))
        body = (*LIB[:3], (*LIB[3], function("f", (), call("p.g"), "num")))
        maker.put(part("p", "ground", function("g", (), num(1), "num")))
        self.stays(maker, NoPart, {"word": "call", "function": "f", "at": 0}, maker.put, body)

    def test_log_is_the_askers_own(self):
        maker = filled((DUO, LIB))
        maker.log().clear()
        maker.log().append("more")
        self.assertEqual(maker.log(), [("put", "duo"), ("put", "lib")])


class DropTest(MakerTest):
    def test_dropped(self):
        maker = filled(TOWER)
        self.assertIsNone(maker.drop("lib"))
        self.assertEqual(maker.tower(), (DUO, TRIO, QUAD, MID, FAR))
        maker.drop(name="mid")
        self.assertEqual(maker.log()[-2:], [("drop", "lib"), ("drop", "mid")])
        self.assertEqual(len(maker), 4)
        maker.put(LIB)
        self.assertEqual(maker.tower(), (DUO, TRIO, QUAD, FAR, LIB))

    def test_one_that_others_need(self):
        maker = filled(TOWER)
        self.stays(maker, NoTongue, {"word": "below", "head": "", "at": -1}, maker.drop, "duo")
        self.stays(maker, NoTongue, {"word": "below", "head": "", "at": -1}, maker.drop, "trio")
        maker.drop("quad")
        maker.drop("trio")
        self.stays(maker, NoPart, {"word": "tongue", "function": "", "at": -1}, maker.drop, "duo")
        maker.put(part("p", "duo", function("f", (("x", "n"),), call("mid.inc", X))))
        self.stays(maker, NoPart, {"word": "call", "function": "f", "at": 0}, maker.drop, "mid")

    def test_one_that_is_not_there(self):
        maker = filled((DUO, LIB))
        for called in ("mid", "ground", "", "DUO", "lib.one", "n"):
            self.stays(maker, NoItem, {"name": called}, maker.drop, called)
        maker.drop("lib")
        self.stays(maker, NoItem, {"name": "lib"}, maker.drop, "lib")
        self.assertTrue(issubclass(NoItem, LookupError))
        self.assertFalse(issubclass(NoItem, TowerError))


BELOW = {"word": "below", "head": "", "at": -1}


class SeveralTest(MakerTest):
    def test_all_put(self):
        for items in (TOWER, list(TOWER)):
            maker = Maker()
            self.assertIsNone(maker.several(items))
            self.assertEqual(maker.tower(), TOWER)
            puts = [("put", item[1]) for item in TOWER]
            self.assertEqual(maker.log(), [("begin", 6), *puts, ("end", 6)])
            self.assertIs(maker.is_open(), True)

    def test_none(self):
        for stay in (False, True):
            maker = filled((DUO,))
            maker.several([], stay=stay)
            maker.several(items=())
            self.assertEqual(maker.tower(), (DUO,))
            self.assertEqual(maker.log(), [("put", "duo"), ("begin", 0), ("end", 0), ("begin", 0), ("end", 0)])

    def test_refused_amid(self):
        items = [DUO, LIB, QUAD, MID]
        maker = Maker()
        row = [("begin", 4), ("put", "duo"), ("put", "lib")]
        logged = [*row, ("back", "lib"), ("back", "duo"), ("end", 0)]
        self.stays(maker, NoTongue, BELOW, maker.several, items, logged=logged)
        self.assertEqual(maker.tower(), ())
        self.refused(NoTongue, BELOW, maker.several, items, stay=True)
        self.assertEqual(maker.tower(), (DUO, LIB))
        self.assertEqual(maker.log()[len(logged) :], [*row, ("end", 2)])
        self.assertIs(maker.is_open(), True)

    def test_refused_at_the_begin(self):
        for stay in (False, True):
            maker = filled((LIB,))
            logged = [("begin", 3), ("end", 0)]
            self.stays(maker, NoTongue, BELOW, maker.several, (QUAD, DUO, MID), stay=stay, logged=logged)

    def test_refused_at_the_end(self):
        maker = filled((LIB,))
        logged = [("begin", 3), ("put", "duo"), ("put", "mid"), ("back", "mid"), ("back", "duo"), ("end", 0)]
        self.stays(maker, NoTongue, BELOW, maker.several, (DUO, MID, QUAD), logged=logged)
        self.refused(NoTongue, BELOW, maker.several, (DUO, MID, QUAD), stay=True)
        self.assertEqual(maker.tower(), (LIB, DUO, MID))
        self.assertEqual(maker.log()[-4:], [("begin", 3), ("put", "duo"), ("put", "mid"), ("end", 2)])

    def test_one_alone(self):
        maker = Maker()
        self.stays(maker, NoTongue, BELOW, maker.several, [QUAD], logged=[("begin", 1), ("end", 0)])
        maker.several([DUO])
        self.assertEqual(maker.log()[2:], [("begin", 1), ("put", "duo"), ("end", 1)])

    def test_one_name_twice(self):
        other = (*LIB[:3], LIB[3][:1])
        maker = Maker()
        maker.several([LIB, DUO, other])
        self.assertEqual(maker.tower(), (other, DUO))
        self.assertEqual(maker.log(), [("begin", 3), ("put", "lib"), ("put", "duo"), ("put", "lib"), ("end", 3)])
        back = [("put", "lib"), ("put", "lib"), ("back", "lib"), ("back", "lib")]
        logged = [("begin", 3), *back, ("end", 0)]
        self.stays(maker, NoTongue, BELOW, maker.several, [LIB, other, QUAD], logged=logged)
        self.assertEqual(maker.tower(), (other, DUO))

    def test_in_the_place_of_others(self):
        maker = filled((LIB, DUO, MID))
        other = (*LIB[:3], LIB[3][:1])
        logged = [("begin", 3), ("put", "lib"), ("put", "far"), ("back", "far"), ("back", "lib"), ("end", 0)]
        self.stays(maker, NoTongue, BELOW, maker.several, [other, FAR, QUAD], logged=logged)
        self.assertEqual(maker.tower(), (LIB, DUO, MID))

    def test_no_parts_of_others(self):
        # Only what was put here is taken back.
        maker = filled((DUO,))
        maker.put(LIB)
        logged = [("begin", 2), ("put", "far"), ("back", "far"), ("end", 0)]
        self.stays(maker, NoTongue, BELOW, maker.several, [FAR, QUAD], logged=logged)

    def test_handed_in_stays(self):
        items = [DUO, LIB, QUAD]
        maker = Maker()
        self.refused(NoTongue, BELOW, maker.several, items)
        self.assertEqual(items, [DUO, LIB, QUAD])
        items.pop()
        maker.several(items)
        items.clear()
        self.assertEqual(maker.tower(), (DUO, LIB))

    def test_stay_by_name_alone(self):
        with self.assertRaises(TypeError):
            Maker().several([], True)


T = tongue(
    form("ID", [term()], hole(0)),
    form("TW", [term()], plus(hole(0), hole(0))),
    form("N", [LIT], num(lit(0))),
    form("MADE", [LIT], num(made("run.f", lit(0)))),
    form("BAD", [LIT], times(lit(0), num(0), num(1))),
)
RUN = part("run", "ground", function("f", NUM, plus(X, num(1)), "num"))
A = part("a", "t", function("f", ONE, t("TW", X)))
B = part("b", "t", function("f", ONE, call("a.f", X)), function("g", ONE, t("MADE", 3)))
C = part("c", "t", function("f", ONE, call("b.f", call("b.g", X))))
ITEMS = (RUN, T, A, B, C)
OTHER_A = part("a", "t", function("f", ONE, t("TW", t("TW", X))))
BAD_A = part("a", "t", function("f", ONE, t("BAD", 10)))
BAD_B = part("b", "t", function("f", ONE, call("a.f", X)), function("g", ONE, t("BAD", 11)))
MANY_A = {"f": "a.f", "at": 0, "why": ("many",)}
MANY_B = {"f": "b.g", "at": 0, "why": ("many",)}


def made_all(tower, most):
    return tuple([made_part(tower, item[1], most=most) for item in tower if item[0] == "part"])


class MakeTest(MakerTest):
    def check(self, maker, *names, most=PARTS):
        """A make makes some parts, and then what was made is what is made of all."""
        at = len(maker.log())
        told = maker.make()
        self.assertIsInstance(told, list)
        self.assertEqual(told, list(names))
        row = [("made", called) for called in names]
        self.assertEqual(maker.log()[at:], [("make", len(names)), *row, ("end", len(names))])
        self.assertIsInstance(maker.made(), tuple)
        self.assertEqual(maker.made(), made_all(maker.tower(), most))
        self.assertIs(maker.is_open(), True)

    def test_all_then_nothing(self):
        maker = filled(ITEMS)
        self.assertEqual(maker.made(), ())
        self.check(maker, "run", "a", "b", "c")
        self.check(maker)
        self.check(maker)

    def test_what_is_stale_alone(self):
        maker = filled(ITEMS)
        maker.make()
        maker.put(OTHER_A)
        self.check(maker, "a")
        maker.put(part("a", "t", function("f", (("y", "n"),), name("y")), function("h", (), t("N", 1))))
        self.check(maker, "a", "b")
        maker.put((*T[:6], (*T[6], form("MORE", [], num(1)))))
        self.check(maker, "a", "b", "c")
        maker.put(part("run", "ground", function("f", NUM, plus(X, num(2)), "num")))
        self.check(maker, "run", "a", "b", "c")
        self.assertEqual(maker.run("b.g", [0]), ("told", 5, 1))

    def test_put_and_put_back(self):
        maker = filled(ITEMS)
        maker.make()
        maker.put(OTHER_A)
        maker.put(A)
        self.check(maker)

    def test_in_the_towers_order(self):
        maker = filled(ITEMS)
        maker.make()
        maker.drop("c")
        maker.put(part("d", "t", function("f", ONE, X)))
        maker.put(C)
        self.check(maker, "d")
        self.assertEqual([one[1] for one in maker.made()], ["run", "a", "b", "d", "c"])

    def test_dropped_and_put_again(self):
        maker = filled(ITEMS)
        maker.make()
        maker.drop("c")
        self.assertEqual([one[1] for one in maker.made()], ["run", "a", "b", "c"])
        self.check(maker)
        self.assertEqual([one[1] for one in maker.made()], ["run", "a", "b"])
        maker.put(C)
        self.check(maker, "c")

    def test_faces(self):
        maker = filled(ITEMS)
        maker.make()
        maker.put(face_of(A))
        self.check(maker)
        self.assertEqual([one[1] for one in maker.made()], ["run", "b", "c"])
        maker.put(A)
        self.check(maker, "a")
        maker.put(face_of(RUN))
        self.stays(
            maker,
            Unmade,
            {"f": "b.g", "at": 0, "why": ("face",)},
            maker.make,
            logged=[("make", 3), ("made", "a"), ("end", 1)],
        )

    def test_refused_at_the_first(self):
        maker = filled((RUN, T, BAD_A, B, C))
        self.stays(maker, Unmade, MANY_A, maker.make, logged=[("make", 4), ("made", "run"), ("end", 1)])
        maker = filled(((*T[:6], T[6][4:]), BAD_A))
        self.stays(maker, Unmade, MANY_A, maker.make, logged=[("make", 1), ("end", 0)])

    def test_refused_at_a_later_one(self):
        maker = filled((RUN, T, A, BAD_B, C))
        logged = [("make", 4), ("made", "run"), ("made", "a"), ("end", 2)]
        self.stays(maker, Unmade, MANY_B, maker.make, logged=logged)
        self.assertEqual(maker.made(), ())
        self.stays(maker, Unmade, MANY_B, maker.make, logged=logged)
        maker.put(B)
        self.check(maker, "run", "a", "b", "c")

    def test_refused_behind_a_make(self):
        maker = filled(ITEMS)
        maker.make()
        first = maker.made()
        maker.put(OTHER_A)
        maker.put(BAD_B)
        self.stays(maker, Unmade, MANY_B, maker.make, logged=[("make", 2), ("made", "a"), ("end", 1)])
        self.assertEqual(maker.made(), first)
        # Runs tell what was last made: a.f is still the old one.
        self.assertEqual(maker.run("a.f", [3]), ("told", 6, 1))
        self.assertEqual(maker.run("b.g", [3]), ("told", 4, 1))
        maker.put(B)
        self.check(maker, "a")
        self.assertEqual(maker.run("a.f", [3]), ("told", 12, 3))

    def test_the_first_refusal(self):
        maker = filled((RUN, T, BAD_A, BAD_B))
        self.stays(maker, Unmade, MANY_A, maker.make, logged=[("make", 3), ("made", "run"), ("end", 1)])

    def test_too_big(self):
        maker = filled(ITEMS, most=3)
        self.check(maker, "run", "a", "b", "c")
        maker.put(OTHER_A)
        logged = [("make", 1), ("end", 0)]
        self.stays(maker, TooBig, {"most": 3}, maker.make, logged=logged)
        maker.put(A)
        self.check(maker)
        self.assertEqual(filled((*ITEMS[:2], OTHER_A), most=7).make(), ["run", "a"])

    def test_most_by_default(self):
        self.assertEqual(PARTS, 3000)
        fat = nested(11, X, lambda inner, at: t("TW", inner))
        maker = filled((RUN, T, part("p", "t", function("f", ONE, fat))))
        logged = [("make", 2), ("made", "run"), ("end", 1)]
        self.stays(maker, TooBig, {"most": 3000}, maker.make, logged=logged)
        maker = filled((RUN, T, part("p", "t", function("f", ONE, fat))), most=4095)
        self.check(maker, "run", "p", most=4095)

    def test_told_names_are_the_askers_own(self):
        maker = filled(ITEMS)
        maker.make().clear()
        self.check(maker)

    def test_two_makers_side_by_side(self):
        one, other = filled(ITEMS), filled(ITEMS[:2])
        one.make()
        self.assertEqual(other.made(), ())
        self.assertEqual(other.log(), [("put", "run"), ("put", "t")])
        other.put(OTHER_A)
        other.make()
        self.assertEqual(one.tower(), ITEMS)
        self.assertEqual(one.run("a.f", [3]), ("told", 6, 1))
        self.assertEqual(other.run("a.f", [3]), ("told", 12, 3))


class RunTest(MakerTest):
    def test_numbers_faults_and_turns(self):
        maker = filled(ITEMS)
        maker.make()
        for f, numbers in (("a.f", [3]), ("b.f", (999,)), ("b.g", [0]), ("c.f", [1]), ("run.f", [999])):
            self.assertEqual(maker.run(f, numbers), ran(ITEMS, f, numbers))
        self.assertEqual(maker.run(f="a.f", args=[3], most=1), ("told", 6, 1))
        low = part("low", "ground", function("f", NUM, ground("/", num(1), X), "num"))
        maker.put(low)
        maker.make()
        self.assertEqual(maker.run("low.f", [0]), ("fault", "nought", "low.f", 0, 2))

    def test_not_made(self):
        maker = filled(ITEMS)
        self.stays(maker, NotMade, {"f": "a.f"}, maker.run, "a.f", [3])
        maker.make()
        for f in ("a.g", "z.f", "", "a", "t.ID", "a.f.f"):
            self.stays(maker, NotMade, {"f": f}, maker.run, f, [3])
        maker.put(part("d", "t", function("f", ONE, call("c.f", X))))
        self.stays(maker, NotMade, {"f": "d.f"}, maker.run, "d.f", [3])
        self.assertTrue(issubclass(NotMade, LookupError))
        self.assertFalse(issubclass(NotMade, TowerError))

    def test_one_that_it_calls_is_not_made(self):
        maker = filled((RUN, T, face_of(A), B, C))
        maker.make()
        self.stays(maker, NotMade, {"f": "a.f"}, maker.run, "a.f", [3])
        self.stays(maker, NotMade, {"f": "a.f"}, maker.run, "b.f", [3])
        self.stays(maker, NotMade, {"f": "a.f"}, maker.run, "c.f", [3])
        self.assertEqual(maker.run("b.g", [3]), ("told", 4, 1))

    def test_what_was_made_till_the_next_make(self):
        maker = filled(ITEMS)
        maker.make()
        maker.put(OTHER_A)
        self.assertEqual(maker.run("a.f", [3]), ("told", 6, 1))
        self.assertEqual(maker.run("c.f", [3]), ran(ITEMS, "c.f", [3]))
        maker.drop("c")
        self.assertEqual(maker.run("c.f", [3]), ran(ITEMS, "c.f", [3]))
        maker.make()
        self.assertEqual(maker.run("a.f", [3]), ("told", 12, 3))
        self.stays(maker, NotMade, {"f": "c.f"}, maker.run, "c.f", [3])

    def test_what_was_made_and_dropped(self):
        maker = filled((RUN, T, A))
        maker.make()
        for called in ("a", "t", "run"):
            maker.drop(called)
        self.assertEqual(maker.run("a.f", [3]), ("told", 6, 1))
        self.assertEqual(len(maker.made()), 2)
        self.assertEqual(maker.make(), [])
        self.assertEqual(maker.made(), ())

    def test_the_tongues_that_the_tower_had_then(self):
        low = (*T[:4], ("bad", "worse"), ("bad", "worse"), (*T[6], form("D", [term()], ground("/", num(1), hole(0)))))
        user = part("p", "t", function("f", ONE, t("D", X)))
        maker = filled((RUN, low, user))
        maker.make()
        self.assertEqual(maker.run("p.f", [0]), ("fault", "bad", "p.f", 0, 2))
        maker.put((*low[:5], ("worse", "bad"), low[6]))
        self.assertEqual(maker.run("p.f", [0]), ("fault", "bad", "p.f", 0, 2))
        maker.put((*low[:4], ("one",), ("one", "one"), low[6]))
        self.assertEqual(maker.run("p.f", [0]), ("fault", "bad", "p.f", 0, 2))
        self.assertEqual(maker.make(), ["p"])
        self.assertEqual(maker.run("p.f", [0]), ("fault", "one", "p.f", 0, 2))

    def test_most(self):
        maker = filled(ITEMS)
        maker.make()
        turns = ran(ITEMS, "c.f", [1])[2]
        self.assertEqual(maker.run("c.f", [1], most=turns)[2], turns)
        for most in range(1, turns):
            self.stays(maker, TooLong, {"most": most}, maker.run, "c.f", [1], most=most)
        with self.assertRaises(TypeError):
            maker.run("c.f", [1], 100)
        self.assertEqual(MOST, 20000)
        body = loop(num(999), "a", num(1), loop(X, "b", num(1), plus(name("b"), num(1))))
        maker.put(part("long", "ground", function("f", NUM, body, "num")))
        maker.make()
        self.assertEqual(maker.run("long.f", [9])[2], 3 + 999 * 20)
        self.stays(maker, TooLong, {"most": 20000}, maker.run, "long.f", [10])

    def test_asked_again(self):
        maker = filled(ITEMS)
        maker.make()
        numbers = [3]
        first = [maker.run("c.f", numbers), maker.tower(), maker.made(), maker.log(), len(maker)]
        maker.run("b.g", [1])
        self.assertEqual([maker.run("c.f", numbers), maker.tower(), maker.made(), maker.log(), len(maker)], first)
        self.assertEqual(numbers, [3])


class HistoryTest(MakerTest):
    """Whatever was done, a maker has what a new one has that was put the same items and made."""

    def test_by_chance(self):
        told = {"put": 0, "refused": 0, "made": 0, "unmade": 0, "back": 0, "kept": 0}
        for seed in range(1000, 1040):
            rng = random.Random(seed)
            towers = [Chance(rng, makes=seed % 4 == 0).good_tower() for _ in range(2)]
            items = [item for tower in towers for item in tower]
            items += [face_of(item) for item in items if item[0] == "part"]
            items += [(*item[:3], item[3][:1]) for item in items if item[0] == "part"]
            self.check_history(rng, items, towers[0], told)
        self.assertGreater(min(told.values()), 20, told)

    def check_history(self, rng, items, tower, told):
        most = rng.choice([PARTS, 40])
        maker = Maker(most=most)
        maker.several(tower)
        last, made_last = (), ()
        for _ in range(12):
            before, log = state(maker), maker.log()
            row = self.step(rng, maker, items)
            more = maker.log()[len(log) :]
            self.assertEqual(maker.log()[: len(log)], log)
            self.assertIs(maker.is_open(), True)
            self.assertIs(look_tower(maker.tower()), True)
            if row[0] == "make":
                names = stale(last, before[0])
                self.assertEqual(more[0], ("make", len(names)))
                self.assertEqual([called for _, called in more[1:-1]], names[: len(more) - 2])
                self.assertEqual(more[-1], ("end", len(more) - 2))
                told["kept"] += len([item for item in before[0] if item[0] == "part"]) - len(names)
                if row[1] is None:
                    last, made_last = maker.tower(), self.new(maker.tower(), most)
                    told["made"] += len(names)
                else:
                    self.assertEqual(state(maker), before)
                    told["unmade"] += 1
            elif row[1] is None:
                told["put"] += 1
            else:
                told["refused"] += 1
                told["back"] += len([one for one in more if one[0] == "back"])
                if row[0] != "stay":
                    self.assertEqual(state(maker), before)
            self.assertEqual(maker.made(), made_last)
            self.check_runs(rng, maker, last)

    def step(self, rng, maker, items):
        """Does something; what it was, and what it was refused by."""
        word = rng.choice(["put", "drop", "several", "stay", "make", "make"])
        some = [rng.choice(items) for _ in range(rng.randrange(4))]
        try:
            if word == "put":
                maker.put(rng.choice(items))
            elif word == "drop":
                maker.drop(rng.choice([item[1] for item in items]))
            elif word == "make":
                maker.make()
            else:
                maker.several(some, stay=word == "stay")
        except (TowerError, NoItem) as error:
            return (word, error)
        return (word, None)

    def new(self, tower, most):
        maker = Maker(most=most)
        maker.several(tower)
        maker.make()
        return maker.made()

    def check_runs(self, rng, maker, last):
        parts_made = maker.made()
        for one in parts_made:
            for f, params, _, _ in one[3]:
                f = f"{one[1]}.{f}"
                numbers = [rng.choice([0, 1, 5, 999]) for _ in params]
                try:
                    due = row_of(ran_joined, last, joined(parts_made), f, numbers, most=50)
                except KeyError:
                    with self.assertRaises(NotMade):
                        maker.run(f, numbers, most=50)
                    continue
                self.assertEqual(row_of(maker.run, f, numbers, most=50), due)


if __name__ == "__main__":
    unittest.main()
