import random
import unittest

from tests.chance import Chance
from tests.plainsight import plain_rows
from tests.refusals import RefusalTest
from tests.samples import TOWER, call, let, loop, name, nested, plus, use
from tonguetower.errors import Clash, NoBody, NoFunction, NoName, TowerError
from tonguetower.names import are_alike
from tonguetower.renaming import renamed
from tonguetower.runs import ran
from tonguetower.sight import places_of
from tonguetower.towers import look_tower

X, Y, A, B = name("x"), name("y"), name("a"), name("b")
PX, PY = ("param", 0), ("param", 1)
PARAMS = (("x", "num"), ("y", "num"))
NO_NAMES = ("", "A", "Ab", "abcdefg", "a1", "a b", "a.b", "1", "+", " ", "a ", "\u00e4", "LET", "ab\n")


def d(head, *things):
    return use("duo", head, *things)


def with_body(body, params=PARAMS, kind="num", tongue="ground"):
    tower = (*TOWER, ("part", "p", tongue, (("f", params, kind, body),)))
    assert look_tower(tower) is True
    return tower


class RenamedTest(RefusalTest):
    def check(self, body, binder, new, due, due_params=None, **more):
        """A body is renamed; what is told is let by in its place."""
        tower = with_body(body, **more)
        told = renamed(tower, "p.f", binder, new)
        params = due_params or more.get("params", PARAMS)
        self.assertEqual(told, ("f", params, more.get("kind", "num"), due))
        part = ("part", "p", more.get("tongue", "ground"), (told,))
        self.assertIs(look_tower((*TOWER, part)), True)

    def clash(self, body, binder, new, at, **more):
        self.refused(Clash, {"at": at}, renamed, with_body(body, **more), "p.f", binder, new)

    def test_params(self):
        body = plus(X, let("a", Y, plus(A, X)))
        self.check(body, PX, "z", plus(name("z"), let("a", Y, plus(A, name("z")))), (("z", "num"), ("y", "num")))
        self.check(body, PY, "z", plus(X, let("a", name("z"), plus(A, X))), (("x", "num"), ("z", "num")))
        tower = with_body(body)
        told = renamed(tower=tower, f="p.f", binder=PX, new="z")
        self.assertEqual(told[1], (("z", "num"), ("y", "num")))

    def test_names_of_uses(self):
        body = plus(let("a", X, plus(A, A)), let("a", Y, A))
        self.check(body, ("use", 1, 0), "b", plus(let("b", X, plus(B, B)), let("a", Y, A)))
        self.check(body, ("use", 6, 0), "b", plus(let("a", X, plus(A, A)), let("b", Y, B)))
        body = loop(X, "a", let("a", X, A), plus(A, Y))
        self.check(body, ("use", 0, 0), "b", loop(X, "b", let("a", X, A), plus(B, Y)))
        self.check(body, ("use", 2, 0), "b", loop(X, "a", let("b", X, B), plus(A, Y)))

    def test_within_one_another(self):
        body = let("a", X, plus(A, let("a", A, plus(A, Y))))
        self.check(body, ("use", 0, 0), "b", let("b", X, plus(B, let("a", B, plus(A, Y)))))
        self.check(body, ("use", 4, 0), "b", let("a", X, plus(A, let("b", A, plus(B, Y)))))
        body = let("x", X, let("x", X, X))
        self.check(body, PX, "b", let("x", B, let("x", X, X)), (("b", "num"), ("y", "num")))
        self.check(body, ("use", 0, 0), "b", let("b", X, let("x", B, X)))

    def test_one_of_two_names(self):
        body = d("TWO", "a", A, "b", d("ADD", A, A), X, B)
        more = {"params": (("x", "n"),), "kind": "n", "tongue": "duo"}
        c = name("c")
        self.check(body, ("use", 0, 0), "c", d("TWO", "c", c, "b", d("ADD", c, c), X, B), **more)
        self.check(body, ("use", 0, 1), "c", d("TWO", "a", A, "c", d("ADD", A, A), X, c), **more)

    def test_within_calls(self):
        body = call("lib.two", let("a", X, call("lib.one", A)), X)
        self.check(body, ("use", 1, 0), "b", call("lib.two", let("b", X, call("lib.one", B)), X))

    def test_to_itself(self):
        body = let("a", X, plus(A, let("a", A, Y)))
        for binder, new in ((PX, "x"), (PY, "y"), (("use", 0, 0), "a"), (("use", 4, 0), "a")):
            self.check(body, binder, new, body)
        two = d("TWO", "a", A, "b", A, X, B)
        more = {"params": (("x", "n"),), "kind": "n", "tongue": "duo"}
        self.check(two, ("use", 0, 0), "a", two, **more)
        self.check(two, ("use", 0, 1), "b", two, **more)

    def test_a_name_that_binds_nothing(self):
        self.check(let("a", X, Y), ("use", 0, 0), "x", let("x", X, Y))
        self.check(X, PY, "z", X, (("x", "num"), ("z", "num")))

    def test_a_name_that_stands_elsewhere(self):
        # Where the other one isn't in sight, or nothing is bound by it within.
        body = plus(let("a", X, A), let("b", Y, B))
        self.check(body, ("use", 1, 0), "b", plus(let("b", X, B), let("b", Y, B)))
        self.check(let("a", X, plus(A, A)), ("use", 0, 0), "y", let("y", X, plus(Y, Y)))
        self.check(let("a", X, plus(A, let("b", A, B))), ("use", 0, 0), "b", let("b", X, plus(B, let("b", B, B))))

    def test_two_params_alike(self):
        self.clash(plus(X, Y), PX, "y", -1)
        self.clash(plus(X, Y), PY, "x", -1)
        self.clash(X, PY, "x", -1)
        self.clash(let("x", X, Y), PX, "y", -1)

    def test_two_names_of_one_use_alike(self):
        more = {"params": (("x", "n"),), "kind": "n", "tongue": "duo"}
        body = d("TWO", "a", A, "b", A, X, B)
        self.clash(body, ("use", 0, 0), "b", 0, **more)
        self.clash(body, ("use", 0, 1), "a", 0, **more)
        body = d("ADD", X, d("SET", "c", X, d("TWO", "a", X, "b", name("c"), X, d("LESS", X, X))))
        self.clash(body, ("use", 4, 1), "a", 4, **more)
        self.clash(body, ("use", 4, 0), "b", 4, **more)

    def test_a_name_that_another_one_would_bind(self):
        # The inner b would bind what the outer one, now b, bound.
        body = let("a", X, let("b", Y, plus(B, A)))
        self.clash(body, ("use", 0, 0), "b", 6)
        self.clash(let("b", Y, plus(X, B)), PX, "b", 3)
        self.clash(loop(X, "b", X, plus(Y, X)), PX, "b", 5)

    def test_a_name_that_would_be_hidden(self):
        body = let("a", X, plus(A, plus(X, Y)))
        self.clash(body, ("use", 0, 0), "x", 5)
        self.clash(body, ("use", 0, 0), "y", 6)
        self.clash(let("a", X, let("b", Y, plus(A, B))), ("use", 2, 0), "a", 5)

    def test_the_first_of_several(self):
        body = let("a", X, plus(plus(A, Y), plus(Y, let("y", A, A))))
        self.clash(body, ("use", 0, 0), "y", 5)
        self.clash(let("a", X, let("b", A, plus(A, plus(A, A)))), ("use", 0, 0), "b", 5)
        body = plus(let("x", X, X), let("b", X, plus(X, X)))
        self.clash(body, PX, "b", 7)
        more = {"params": (("x", "n"), ("y", "b")), "kind": "n", "tongue": "duo"}
        body = d("ADD", X, d("TWO", "a", A, "y", X, X, Y))
        self.clash(body, ("use", 2, 1), "a", 2, **more)

    def test_deep(self):
        body = nested(900, X, lambda inner, at: let("a", X, plus(A, inner)))
        tower = with_body(body)
        told = renamed(tower, "p.f", PX, "z")
        self.assertEqual(told[1], (("z", "num"), ("y", "num")))
        self.assertEqual(len(places_of((("part", "p", "ground", (told,)),), "p.f", PX)), 901)
        self.refused(Clash, {"at": 5}, renamed, tower, "p.f", PX, "a")

    def test_unchanged_and_again(self):
        body = let("a", X, plus(A, Y))
        tower = with_body(body)
        first = renamed(tower, "p.f", ("use", 0, 0), "b")
        self.assertEqual(renamed(tower, "p.f", ("use", 0, 0), "b"), first)
        self.assertEqual(tower, with_body(let("a", X, plus(A, Y))))


class RefusedTest(RefusalTest):
    def test_no_name(self):
        for new in NO_NAMES:
            for binder in (PX, PY, ("use", 0, 0)):
                self.refused(NoName, {"name": new}, renamed, with_body(let("a", X, Y)), "p.f", binder, new)
        self.assertTrue(issubclass(NoName, TowerError))

    def test_ahead_of_no_function(self):
        for f in ("mid.none", "", "far.off", "none.f"):
            self.refused(NoName, {"name": "A"}, renamed, TOWER, f, PX, "A")

    def test_no_function(self):
        for f in ("mid.none", "", "none.inc", "duo.LIT", "mid.inc.inc", "far.none"):
            self.refused(NoFunction, {"f": f}, renamed, TOWER, f, PX, "z")
        self.refused(NoBody, {"f": "far.off"}, renamed, TOWER, "far.off", PX, "z")

    def test_a_clash_is_a_refusal(self):
        self.assertTrue(issubclass(Clash, TowerError))


class ChanceTest(RefusalTest):
    def test_by_chance(self):
        told = {True: 0, False: 0}
        for seed in range(950, 960):
            rng = random.Random(seed)
            tower = Chance(rng).good_tower()
            for item in [item for item in tower if item[0] == "part"]:
                for one in item[3]:
                    self.check_function(rng, tower, (item, one), told)
        self.assertGreater(min(told.values()), 60, told)

    def check_function(self, rng, tower, place, told):
        item, one = place
        rows = plain_rows(tower, item[2], one)
        binders = [("param", k) for k in range(len(one[1]))]
        for at, (term, _, _) in enumerate(rows):
            names = [thing for thing in term[3] if isinstance(thing, str)] if term[0] == "use" else []
            binders += [("use", at, j) for j in range(len(names))]
        for binder in binders:
            for new in rng.sample(["a", "b", "c", "x", "y", "z", "new"], 3):
                self.check_renamed(tower, place, binder, new, told)

    def check_renamed(self, tower, place, binder, new, told):
        item, one = place
        due = plainly_renamed(tower, item[2], one, binder, new)
        f = f"{item[1]}.{one[0]}"
        if isinstance(due, int):
            self.refused(Clash, {"at": due}, renamed, tower, f, binder, new)
            told[False] += 1
            return
        found = renamed(tower, f, binder, new)
        self.assertEqual(found, due)
        told[True] += 1
        # As a body under its params the function is alike.
        self.assertTrue(binder[0] == "param" or are_alike(tower, found[3], one[3]))
        functions = tuple([found if other == one else other for other in item[3]])
        changed = tuple([(*item[:3], functions) if other == item else other for other in tower])
        self.assertIs(look_tower(changed), True)
        if told[True] % 5:
            return
        numbers = [k + 1 for k in range(len(one[1]))]
        try:
            run = ran(tower, f, numbers, most=100)
        except TowerError:
            return
        self.assertEqual(ran(changed, f, numbers, most=100), run)


def plainly_renamed(tower, tongue, function, binder, new):
    """The function renamed, or the number of the first part that can't stand there."""
    rows = plain_rows(tower, tongue, function)
    count = [0]

    def go(term):
        at = count[0]
        count[0] += 1
        if term[0] == "name":
            return ("name", new) if rows[at][2][term[1]][1] == binder else term
        things = []
        made = 0
        for thing in term[-1]:
            if isinstance(thing, tuple):
                thing = go(thing)
            elif isinstance(thing, str):
                thing = new if binder == ("use", at, made) else thing
                made += 1
            things.append(thing)
        return (*term[:-1], tuple(things))

    f, params, kind, body = function
    params = tuple([(new if binder == ("param", k) else x, due) for k, (x, due) in enumerate(params)])
    if len(dict(params)) < len(params):
        return -1
    told = (f, params, kind, go(body))
    for at, (term, _, sight) in enumerate(plain_rows(tower, tongue, told)):
        names = [thing for thing in term[3] if isinstance(thing, str)] if term[0] == "use" else []
        if len(set(names)) < len(names):
            return at
        if term[0] == "name" and sight[term[1]][1] != rows[at][2][rows[at][0][1]][1]:
            return at
    return told


if __name__ == "__main__":
    unittest.main()
