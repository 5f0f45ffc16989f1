import random
import unittest

from tests.chance import Chance
from tests.plainly import row_of
from tests.refusals import RefusalTest
from tests.samples import call, choose, ground, hole, lit, made, name, nested, num, plus, times, use
from tests.tongues_made import LIT, NUM, form, function, part, term, tongue
from tonguetower.folding import folded
from tonguetower.making import made_part
from tonguetower.stale import stale, why_stale
from tonguetower.towers import face_of, look_tower

X = name("x")
ONE = (("x", "n"),)


def t(head, *things):
    return use("t", head, *things)


def ground_part(called, *bodies):
    """A part of the ground; its functions are f, g and so on."""
    return part(called, "ground", *[function(f, NUM, body, "num") for f, body in zip("fgh", bodies)])


def face(item, *heads):
    """An item's face, perhaps with other heads behind its own."""
    told = face_of(item)
    return (*told[:3], (*told[3], *heads))


def put(tower, *items):
    """A tower with items in the places of those of their names."""
    found = {item[1]: item for item in tower}
    for item in items:
        found[item[1]] = item
    return tuple(found.values())


def without(tower, called):
    return tuple([item for item in tower if item[1] != called])


def more_of(item):
    """An item that is another one, but seen from outside the same: a form more, or other bodies."""
    if item[0] == "tongue":
        return (*item[:6], (*item[6], ("MORE", (), "n", other_meaning(item))))
    return (*item[:3], tuple([(*one[:3], wrapped(one[3], item[2])) for one in item[3]]))


def other_meaning(item):
    return num(9) if item[2] == "ground" else use(item[2], "N", 9)


def wrapped(body, tongue_of):
    return plus(body, num(0)) if tongue_of == "ground" else use(tongue_of, "ID", body)


# deep: run by run at making. run: run at making of t. seen: called by a meaning of t. low: called by seen alone.
DEEP = ground_part("deep", X)
LOW = tongue(form("N", [LIT], num(made("deep.f", lit(0)))), form("ID", [term()], hole(0)), called="low")
RUN = part("run", "low", function("f", ONE, use("low", "ID", X)))
SEEN = ground_part("seen", X, plus(X, X))
TONGUE = tongue(
    form("N", [LIT], num(made("run.f", lit(0)))),
    form("ID", [term()], hole(0)),
    form("SEEN", [term()], call("seen.f", hole(0))),
)
SIDE = part("side", "t", function("f", ONE, t("ID", X)), function("g", ONE, X))
P = part("p", "t", function("f", ONE, t("N", 3)), function("g", ONE, call("side.f", call("p.f", X))))
TOWER = (DEEP, LOW, RUN, SEEN, TONGUE, SIDE, P)


class StaleTest(RefusalTest):
    def check(self, old, new, due):
        """What is stale, and why, and that both tell the same."""
        for tower in (old, new):
            self.assertIs(look_tower(tower), True)
        told = why_stale(old, new)
        self.assertIsInstance(told, dict)
        self.assertEqual(list(told.items()), list(due.items()))
        found = stale(old, new)
        self.assertIsInstance(found, list)
        self.assertEqual(found, list(due))


class ItselfTest(StaleTest):
    def test_nothing_otherwise(self):
        self.check(TOWER, TOWER, {})
        self.check((), (), {})
        self.check(TOWER, (), {})
        self.assertEqual(stale(old=TOWER, new=TOWER), [])
        self.assertEqual(why_stale(old=TOWER, new=TOWER), {})

    def test_equal_but_told_anew(self):
        again = (DEEP[:3] + (tuple(list(DEEP[3])),), *TOWER[1:])
        self.check(TOWER, again, {})

    def test_all_new(self):
        # Behind the parts that t's meanings run and call; of each the first input in the tower's order.
        whys = {"deep": "deep", "run": "deep", "seen": "seen", "side": "deep", "p": "deep"}
        self.check((), TOWER, whys)

    def test_another_body(self):
        self.check(TOWER, put(TOWER, more_of(P)), {"p": "p"})
        self.check(TOWER, put(TOWER, more_of(SIDE)), {"side": "side"})
        self.check(TOWER, put(TOWER, more_of(SEEN)), {"seen": "seen"})

    def test_other_bound_names_are_another_body(self):
        other = ground_part("seen", ground("LET", "a", X, name("a")), plus(X, X))
        twin = ground_part("seen", ground("LET", "b", X, name("b")), plus(X, X))
        self.check(put(TOWER, other), put(TOWER, twin), {"seen": "seen"})
        other = part("p", "t", function("f", ONE, X))
        self.check(put(TOWER, other), put(TOWER, part("p", "t", function("f", (("y", "n"),), name("y")))), {"p": "p"})

    def test_one_function_more(self):
        more = (*P[:3], (*P[3], function("h", ONE, X)))
        self.check(TOWER, put(TOWER, more), {"p": "p"})
        self.check(put(TOWER, more), TOWER, {"p": "p"})

    def test_a_part_that_is_new(self):
        new = part("new", "t", function("f", ONE, X))
        self.check(TOWER, (*TOWER, new), {"new": "new"})
        self.check((*TOWER, new), TOWER, {})
        self.check((), (new_ground("a"), new_ground("b")), {"a": "a", "b": "b"})

    def test_another_tongue_of_a_part(self):
        twin = (*TONGUE[:1], "twin", *TONGUE[2:])
        tower = (*TOWER[:5], twin, *TOWER[5:])
        old = part("q", "t", function("f", ONE, X))
        self.check((*tower, old), (*tower, part("q", "twin", function("f", ONE, X))), {"q": "q"})

    def test_a_face_is_never_stale(self):
        self.check(TOWER, put(TOWER, face(P)), {})
        self.check((), (face(DEEP),), {})
        self.check(put(TOWER, face(P)), TOWER, {"p": "p"})
        self.check(TOWER, put(TOWER, face(P, ("h", (), "n"))), {})


def new_ground(called):
    return ground_part(called, X)


class TongueTest(StaleTest):
    def test_its_tongue(self):
        self.check(TOWER, put(TOWER, more_of(TONGUE)), {"side": "t", "p": "t"})
        tells = (*TONGUE[:5], ("worse", "bad"), TONGUE[6])
        self.check(TOWER, put(TOWER, tells), {"side": "t", "p": "t"})

    def test_a_tongue_beneath(self):
        high = tongue(form("N", [LIT], t("N", lit(0))), called="u", below="t", meaning="n")
        top = tongue(form("N", [LIT], use("u", "N", lit(0))), called="v", below="u", meaning="n")
        some = (high, top, part("x", "u", function("f", ONE, X)), part("y", "v", function("f", ONE, X)))
        tower = tuple([item for item in TOWER if item[1] not in ("run", "low")])
        tower = put(tower, (*TONGUE[:6], TONGUE[6][1:] + (form("N", [LIT], num(lit(0))),)), *some)
        self.check(tower, put(tower, more_of(tower[2])), {"side": "t", "p": "t", "x": "t", "y": "t"})
        self.check(tower, put(tower, more_of(high)), {"x": "u", "y": "u"})
        self.check(tower, put(tower, more_of(top)), {"y": "v"})

    def test_things_of_other_sorts(self):
        n = ("name", "n")
        rows = [(num(7), num(lit(0))), (num(lit(0)), num(made("deep.f", 7))), (times(3, num(1), num(2)), num(1))]
        rows.append((ground("LET", "ab", num(1), num(2)), ground("LET", ("own", 0), num(1), num(2))))
        rows.append((choose(0, num(1)), choose(0, num(1), num(1))))
        for one, other in rows:
            old = (DEEP, tongue(form("A", [LIT, n], one)), part("p", "t"))
            new = (DEEP, tongue(form("A", [LIT, n], other)), part("p", "t"))
            self.check(old, new, {"p": "t"})
            self.check(new, old, {"p": "t"})

    def test_another_tongue(self):
        lone = tongue(form("ID", [term()], hole(0)), called="lone")
        self.check(TOWER, (*TOWER, lone), {})
        self.check((*TOWER, lone), TOWER, {})
        self.check((lone, *TOWER), (more_of((*lone[:6], (form("Z", [], num(1)),))), *TOWER), {})

    def test_the_first_of_several(self):
        tower = put(TOWER, more_of(TONGUE), more_of(P))
        self.check(TOWER, tower, {"side": "t", "p": "t"})
        tower = put(TOWER, more_of(P), more_of(RUN))
        self.check(TOWER, tower, {"run": "run", "side": "run", "p": "run"})

    def test_the_new_order(self):
        # t and seen stand by themselves: seen may stand ahead of deep, too.
        some = (*TOWER[3:4], *TOWER[:3], *TOWER[4:])
        changed = put(some, more_of(LOW), face(SEEN, ("h", (), "num")))
        self.check(TOWER, changed, {"run": "low", "side": "seen", "p": "seen"})
        changed = put(TOWER, more_of(LOW), face(SEEN, ("h", (), "num")))
        self.check(some, changed, {"run": "low", "side": "low", "p": "low"})


class CalledTest(StaleTest):
    def test_what_a_part_calls(self):
        self.check(TOWER, put(TOWER, more_of(SIDE)), {"side": "side"})
        heads = (*SIDE[:3], (*SIDE[3], function("h", ONE, X)))
        self.check(TOWER, put(TOWER, heads), {"side": "side", "p": "side"})
        kinds = (*SIDE[:3], (SIDE[3][0], function("g", (), t("N", 1))))
        self.check(TOWER, put(TOWER, kinds), {"side": "side", "p": "side"})
        order = (*SIDE[:3], SIDE[3][::-1])
        self.check(TOWER, put(TOWER, order), {"side": "side", "p": "side"})
        names = (*SIDE[:3], (SIDE[3][0], function("g", (("y", "n"),), name("y"))))
        self.check(TOWER, put(TOWER, names), {"side": "side"})

    def test_what_a_meaning_calls(self):
        heads = (*SEEN[:3], (*SEEN[3], function("h", NUM, X, "num")))
        self.check(TOWER, put(TOWER, more_of(SEEN)), {"seen": "seen"})
        self.check(TOWER, put(TOWER, heads), {"seen": "seen", "side": "seen", "p": "seen"})
        # low's meanings call nothing, but those of t, which q doesn't use, do.
        q = part("q", "t", function("f", ONE, X))
        self.check((*TOWER, q), put((*TOWER, q), heads), {"seen": "seen", "side": "seen", "p": "seen", "q": "seen"})

    def test_what_a_called_one_calls(self):
        top = part("top", "t", function("f", ONE, call("p.g", X)))
        tower = (*TOWER, top)
        heads = (*SIDE[:3], (*SIDE[3], function("h", ONE, X)))
        self.check(tower, put(tower, heads), {"side": "side", "p": "side"})
        self.check(tower, put(tower, more_of(P)), {"p": "p"})

    def test_a_face_in_its_place(self):
        self.check(TOWER, put(TOWER, face(SIDE)), {})
        self.check(put(TOWER, face(SIDE)), TOWER, {"side": "side"})
        self.check(put(TOWER, face(SIDE)), put(TOWER, more_of(SIDE)), {"side": "side"})
        self.check(TOWER, put(TOWER, face(SIDE, ("h", (), "n"))), {"p": "side"})
        self.check(put(TOWER, face(SIDE, ("h", (), "n"))), TOWER, {"side": "side", "p": "side"})
        self.check(TOWER, put(TOWER, face(SEEN)), {})
        self.check(TOWER, put(TOWER, face(SEEN, ("h", (), "num"))), {"side": "seen", "p": "seen"})
        self.check(put(TOWER, face(SEEN)), put(TOWER, face(SEEN, ("h", (), "num"))), {"side": "seen", "p": "seen"})

    def test_a_name_is_no_part(self):
        names = ground_part("x", X)
        low = tongue(form("A", [], ground("LET", "x", num(1), name("x"))))
        tower = (names, low, part("p", "t", function("f", ONE, X)), part("q", "ground", function("f", NUM, X, "num")))
        self.check(tower, put(tower, face(names, ("h", (), "num"))), {})
        self.check(tower, put(tower, ground_part("x", X, X)), {"x": "x"})

    def test_one_that_lacked(self):
        old = (*without(TOWER, "side")[:5], part("p", "t", function("f", ONE, t("N", 3))))
        self.check(old, TOWER, {"side": "side", "p": "side"})
        self.check(TOWER, old, {"p": "p"})

    def test_calls_deep_within(self):
        body = t("ID", t("ID", call("side.g", t("ID", call("side.f", X)))))
        tower = (*TOWER, part("q", "t", function("e", ONE, X), function("f", ONE, body)))
        heads = (*SIDE[:3], (*SIDE[3], function("h", ONE, X)))
        self.check(tower, put(tower, heads), {"side": "side", "p": "side", "q": "side"})

    def test_calls_anywhere_in_a_meaning(self):
        rows = [
            choose(0, hole(0), call("one.f", hole(0))),
            times(0, call("one.f", hole(0)), hole(0)),
            times(0, hole(0), plus(num(1), call("one.f", hole(0)))),
            plus(num(1), plus(call("one.f", hole(0)), num(2))),
            call("two.f", call("one.f", num(1))),
        ]
        for meaning in rows:
            tower = (new_ground("one"), new_ground("two"), tongue(form("A", [term()], meaning)), part("p", "t"))
            heads = ground_part("one", X, X)
            self.check(tower, put(tower, heads), {"one": "one", "p": "one"})
            self.check(tower, put(tower, more_of(tower[0])), {"one": "one"})


class RunTest(StaleTest):
    def test_what_runs_at_making_is_needed_whole(self):
        self.check(TOWER, put(TOWER, more_of(RUN)), {"run": "run", "side": "run", "p": "run"})

    def test_its_tongue(self):
        self.check(TOWER, put(TOWER, more_of(LOW)), {"run": "low", "side": "low", "p": "low"})

    def test_what_this_one_runs(self):
        due = {"deep": "deep", "run": "deep", "side": "deep", "p": "deep"}
        self.check(TOWER, put(TOWER, more_of(DEEP)), due)

    def test_a_face_as_it_stands(self):
        self.check(TOWER, put(TOWER, face(RUN)), {"side": "run", "p": "run"})
        self.check(put(TOWER, face(RUN)), TOWER, {"run": "run", "side": "run", "p": "run"})
        self.check(TOWER, put(TOWER, face(DEEP)), {"run": "deep", "side": "deep", "p": "deep"})
        self.check(put(TOWER, face(RUN)), put(TOWER, face(RUN)), {})
        self.check(put(TOWER, face(RUN)), put(TOWER, face(RUN, ("h", (), "n"))), {"side": "run", "p": "run"})

    def test_the_tongues_of_a_face(self):
        tower = put(TOWER, face(RUN))
        self.check(tower, put(tower, more_of(LOW)), {"side": "low", "p": "low"})
        self.check(tower, put(tower, more_of(DEEP)), {"deep": "deep", "side": "deep", "p": "deep"})

    def check_whole(self, one, run_part, ahead=()):
        """The part one is needed whole, by way of what runs at making."""
        low = tongue(form("A", [], num(made(f"{run_part[1]}.f", 1))))
        tower = (*ahead, run_part, low, part("p", "t", function("f", (), t("A"))))
        for changed in (put(tower, more_of(one)), put(tower, face(one))):
            self.assertIs(look_tower(changed), True)
            self.assertEqual(why_stale(tower, changed)["p"], one[1])
            self.assertEqual(stale(changed, changed), [])

    def test_what_it_calls(self):
        one = new_ground("one")
        self.check_whole(one, ground_part("run", call("one.f", X)), (one,))
        two = ground_part("two", call("one.f", X))
        self.check_whole(one, ground_part("run", call("two.f", X)), (one, two))

    def test_what_its_meanings_call(self):
        one = new_ground("one")
        low = tongue(form("ID", [term()], call("one.f", hole(0))), called="low")
        self.check_whole(one, part("run", "low", function("f", ONE, X)), (one, low))

    def test_what_its_meanings_run(self):
        one = new_ground("one")
        low = tongue(form("ID", [term()], plus(hole(0), num(made("one.f", 1)))), called="low")
        self.check_whole(one, part("run", "low", function("f", ONE, X)), (one, low))

    def test_called_and_run(self):
        # One is called by p and run by its tongue: it is needed whole.
        one = new_ground("one")
        low = tongue(form("A", [], num(made("one.f", 1))), form("C", [], call("one.f", num(1))))
        tower = (one, low, part("p", "t", function("f", (), t("A"))))
        self.check(tower, put(tower, more_of(one)), {"one": "one", "p": "one"})
        self.check(tower, put(tower, face(one)), {"p": "one"})

    def test_numbers_anywhere_in_a_meaning(self):
        rows = [
            num(made("one.f", 1)),
            num(made("two.f", made("one.f", 1))),
            num(made("two.f", made("two.f", made("one.f", lit(0))))),
            choose(made("one.f", 1), num(1)),
            choose(made("two.f", made("one.f", 1)), num(1)),
            choose(0, num(1), num(made("one.f", 1))),
            times(made("one.f", 1), num(1), num(2)),
            times(made("two.f", made("one.f", 1)), num(1), num(2)),
            times(0, num(made("one.f", 1)), num(2)),
            times(0, num(1), plus(num(2), num(made("one.f", 1)))),
            plus(num(1), plus(num(made("one.f", 1)), num(2))),
            call("two.f", num(made("one.f", 1))),
        ]
        for meaning in rows:
            low = tongue(form("A", [LIT], meaning))
            tower = (new_ground("one"), new_ground("two"), low, part("p", "t"))
            self.check(tower, put(tower, more_of(tower[0])), {"one": "one", "p": "one"})

    def test_in_a_tongue_beneath(self):
        low = tongue(form("A", [], num(made("one.f", 1))))
        high = tongue(form("B", [], t("A")), called="u", below="t", meaning="n")
        tower = (new_ground("one"), low, high, part("p", "u"), part("q", "ground"))
        self.check(tower, put(tower, more_of(tower[0])), {"one": "one", "p": "one"})


class WholeTest(StaleTest):
    def test_the_order_otherwise(self):
        some = (SEEN, DEEP, LOW, RUN, TONGUE, SIDE, P)
        self.check(TOWER, some, {})
        q = part("q", "t", function("f", ONE, X))
        self.check((*TOWER, q), (*TOWER[:5], q, *TOWER[5:]), {})
        self.check(some, put(TOWER, more_of(P)), {"p": "p"})

    def test_hundreds_deep(self):
        def deep(inner):
            body = nested(1500, inner, lambda body, at: plus(body, num(1)))
            low = tongue(form("A", [term()], nested(1500, hole(0), lambda body, at: plus(body, inner))))
            return (part("one", "ground", function("f", NUM, plus(X, body), "num")), low, part("p", "t"))

        self.check(deep(num(1)), deep(num(1)), {})
        self.check(deep(num(1)), deep(num(2)), {"one": "one", "p": "t"})

    def test_folded_tongues(self):
        forms = [form("A", [term()], nested(8, hole(0), lambda inner, at: t("ID", inner)))]
        high = tongue(*forms, called="u", below="t", meaning="n")
        tower = (*TOWER, high, part("q", "u", function("f", ONE, use("u", "A", X))))
        self.check(tower, put(tower, folded(tower, "u")), {"q": "u"})
        self.check(put(tower, folded(tower, "u")), put(tower, folded(tower, "u")), {})

    def test_told_anew(self):
        changed = put(TOWER, more_of(P))
        stale(TOWER, changed).clear()
        why_stale(TOWER, changed).clear()
        self.check(TOWER, changed, {"p": "p"})

    def test_by_chance_what_is_not_stale_is_made_the_same(self):
        kept = 0
        anew = 0
        for seed in range(800, 880):
            rng = random.Random(seed)
            old = Chance(rng).good_tower()
            new = self.changed(rng, old)
            if new is None:
                continue
            names = stale(old, new)
            self.assertEqual(names, list(plain_why(old, new)))
            self.assertEqual(why_stale(old, new), plain_why(old, new))
            for item in [item for item in new if item[0] == "part"]:
                if item[1] in names:
                    anew += 1
                else:
                    kept += 1
                    self.assertEqual(row_of(made_part, new, item[1]), row_of(made_part, old, item[1]))
        self.assertGreater(min(kept, anew), 20, (kept, anew))

    def changed(self, rng, old):
        """A tower of which one item is another one, or None where it isn't let by."""
        at = rng.randrange(len(old))
        item = old[at]
        if item[0] == "tongue":
            forms = list(item[6])
            k = rng.randrange(len(forms)) if forms else 0
            some = Chance(rng)
            beneath = some.tongue_of(old, item[2])
            forms[k : k + 1] = [one for one in [some.form(old[:at], beneath, dict(item[3]), "Q")] if one]
            item = (*item[:6], tuple(forms))
        elif rng.random() < 0.4:
            item = face_of(item)
        else:
            item = (*item[:3], item[3][: rng.randrange(3)])
        new = (*old[:at], item, *old[at + 1 :])
        try:
            return new if look_tower(new) else None
        except ValueError:
            return None


def plain_why(old, new):
    """What the document says of stale parts, done plainly by calls."""
    items = {item[1]: item for item in new}
    olds = {item[1]: item for item in old}

    def tongues(item):
        return [] if item[2] == "ground" else [items[item[2]], *tongues(items[item[2]])]

    def found(thing, word):
        """The parts that stand in a thing behind a word, wherever it stands."""
        if not isinstance(thing, tuple):
            return []
        own = [thing[1].split(".")[0]] if thing[:1] == (word,) and isinstance(thing[1], str) and "." in thing[1] else []
        return own + [name for inner in thing for name in found(inner, word)]

    def whole(item, done):
        if item[1] in done:
            return
        done[item[1]] = item
        for one in tongues(item):
            done.setdefault(one[1], one)
        for one in (item, *tongues(item)):
            for name in found(one, "call") + found(one, "made"):
                whole(items[name], done)

    told = {}
    for item in [item for item in new if item[0] == "part"]:
        needed = {one[1]: one for one in (item, *tongues(item))}
        faces = found(item, "call") + [name for one in tongues(item) for name in found(one, "call")]
        for one in tongues(item):
            for name in found(one, "made"):
                done = {}
                whole(items[name], done)
                needed.update(done)
        for one in new:
            if one[1] in needed and olds.get(one[1]) != one:
                told.setdefault(item[1], one[1])
            elif one[1] in faces and one[1] not in needed:
                seen = olds.get(one[1], ("none",))
                if seen[0] not in ("part", "face") or plain_face(seen) != plain_face(one):
                    told.setdefault(item[1], one[1])
    return told


def plain_face(item):
    return item[:3] if item[0] == "tongue" else face_of(item)[1:] if item[0] == "part" else item[1:]


if __name__ == "__main__":
    unittest.main()
