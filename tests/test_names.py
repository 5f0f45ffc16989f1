import random
import unittest

from tests.samples import DUO, TOWER, call, let, letters, loop, name, nested, num, plus, use
from tonguetower.names import are_alike, free_names, put_in
from tonguetower.terms import deep, parts
from tonguetower.words import is_name

X, Y, Z = name("x"), name("y"), name("z")


def two(one, other, *terms):
    """A use of a form that opens the first name in one term, both in the next, none, the second."""
    return use("duo", "TWO", one, terms[0], other, *terms[1:])


def opened(term):
    """The terms in a term with what they open, told without the program."""
    if term[0] == "name":
        return []
    if term[0] == "call":
        return [(inner, ()) for inner in term[2]]
    terms = [thing for thing in term[3] if isinstance(thing, tuple)]
    names = [thing for thing in term[3] if isinstance(thing, str)]
    opens = {"LET": ((), (0,)), "LOOP": ((), (), (0,)), "SET": ((), (0,)), "TWO": ((0,), (0, 1), (), (1,))}
    return [(inner, [names[k] for k in row]) for inner, row in zip(terms, opens.get(term[2], ((),) * len(terms)))]


def with_unlike_names(term, bound, new):
    """A term in which each use makes names that stand nowhere else."""
    if term[0] == "name":
        return name(bound.get(term[1], term[1]))
    made = {}
    for thing in term[3] if term[0] == "use" else ():
        if isinstance(thing, str):
            new.append(0)
            made[thing] = f"?{len(new)}"
    inner = [with_unlike_names(one, {**bound, **{x: made[x] for x in names}}, new) for one, names in opened(term)]
    if term[0] == "call":
        return call(term[1], *inner)
    left = inner[::-1]
    return use(*term[1:3], *[left.pop() if isinstance(t, tuple) else made.get(t, t) for t in term[3]])


def plain(term):
    """A term told by itself, but for bound names."""
    return with_unlike_names(term, {}, [])


def put_plainly(term, some):
    """What put_in is due to tell, but for bound names: uses of plain terms make no name that could catch one."""
    if term[0] == "name":
        return some.get(term[1], term)
    if term[0] == "call":
        return call(term[1], *[put_plainly(inner, some) for inner in term[2]])
    return use(*term[1:3], *[put_plainly(t, some) if isinstance(t, tuple) else t for t in term[3]])


def free_plainly(term):
    row = [part[1] for part in parts(plain(term)) if part[0] == "name" and not part[1].startswith("?")]
    return tuple(dict.fromkeys(row))


def some_term(chance, floors):
    """A term of few names, so that they often meet."""
    if floors == 0 or chance.random() < 0.15:
        return name(chance.choice("abc")) if chance.random() < 0.85 else num(chance.choice((1, 2)))
    head = chance.choice(("+", "LET", "LOOP", "SET", "TWO", "MARK", "call"))
    inner = [some_term(chance, floors - 1) for _ in range(4)]
    x, y = chance.sample("abc", 2)
    if head == "+":
        return plus(*inner[:2])
    if head == "LET":
        return let(x, *inner[:2])
    if head == "LOOP":
        return loop(inner[0], x, *inner[1:3])
    if head == "SET":
        return use("duo", "SET", x, *inner[:2])
    if head == "MARK":
        return use("duo", "MARK", x, chance.choice((1, 2)))
    return two(x, y, *inner) if head == "TWO" else call(chance.choice(("lib.two", "lib.due")), *inner[:2])


class FreeTest(unittest.TestCase):
    def told(self, term):
        return free_names(TOWER, term)

    def test_ordinary(self):
        self.assertEqual(self.told(X), ("x",))
        self.assertEqual(self.told(num(1)), ())
        self.assertEqual(self.told(call("lib.zero")), ())
        self.assertEqual(self.told(plus(X, Y)), ("x", "y"))
        self.assertEqual(self.told(call("no.no", Y, X, Y)), ("y", "x"))

    def test_as_they_first_stand(self):
        self.assertEqual(self.told(plus(plus(Z, Y), plus(X, Z))), ("z", "y", "x"))
        self.assertEqual(self.told(let("x", Y, plus(X, Z))), ("y", "z"))
        self.assertEqual(self.told(call("p.f", let("x", Z, X), X, Y)), ("z", "x", "y"))
        self.assertEqual(self.told(two("a", "b", name("b"), Z, Y, X)), ("b", "z", "y", "x"))

    def test_free_in_one_term_bound_in_another(self):
        self.assertEqual(self.told(let("x", X, X)), ("x",))
        self.assertEqual(self.told(let("x", Y, X)), ("y",))
        self.assertEqual(self.told(loop(X, "x", Y, X)), ("x", "y"))
        self.assertEqual(self.told(loop(Y, "x", X, X)), ("y", "x"))
        self.assertEqual(self.told(loop(Y, "x", Z, X)), ("y", "z"))

    def test_opened_in_some_terms_only(self):
        self.assertEqual(self.told(two("x", "y", X, num(1), num(1), num(1))), ())
        self.assertEqual(self.told(two("x", "y", Y, num(1), num(1), num(1))), ("y",))
        self.assertEqual(self.told(two("x", "y", num(1), plus(X, Y), num(1), num(1))), ())
        self.assertEqual(self.told(two("x", "y", num(1), num(1), plus(Y, X), num(1))), ("y", "x"))
        self.assertEqual(self.told(two("x", "y", num(1), num(1), num(1), plus(X, Y))), ("x",))

    def test_bound_by_the_innermost(self):
        self.assertEqual(self.told(let("x", Y, let("x", X, X))), ("y",))
        self.assertEqual(self.told(let("x", let("x", X, X), X)), ("x",))
        self.assertEqual(self.told(let("x", num(1), plus(let("y", X, Y), Y))), ("y",))

    def test_made_but_not_standing(self):
        self.assertEqual(self.told(let("x", num(1), num(2))), ())
        self.assertEqual(self.told(two("x", "y", num(1), num(1), num(1), num(1))), ())

    def test_any_terms(self):
        chance = random.Random(1)
        for _ in range(500):
            term = some_term(chance, 4)
            self.assertEqual(self.told(term), free_plainly(term))

    def test_hundreds_deep(self):
        many = 1500
        term = nested(many, X, lambda inner, at: let(letters(at), name(letters(at)), inner))
        row = tuple(letters(many - 1 - at) for at in range(many))
        self.assertEqual(self.told(term), (*row, "x"))
        term = nested(many, plus(X, Y), lambda inner, at: let("x", inner, X))
        self.assertEqual(self.told(term), ("x", "y"))
        term = nested(many, plus(X, Y), lambda inner, at: let("x", Z, inner))
        self.assertEqual(self.told(term), ("z", "y"))

    def test_by_name_and_again(self):
        for _ in range(2):
            told = free_names(tower=TOWER, term=plus(X, Y))
            self.assertEqual(told, ("x", "y"))
            self.assertIsInstance(told, tuple)


class PutTest(unittest.TestCase):
    def check(self, term, some, due):
        told = put_in(TOWER, term, some)
        self.assertEqual(plain(told), plain(due))
        self.assertTrue(are_alike(TOWER, told, due))
        for part in parts(told):
            if part[0] == "use":
                made = [thing for thing in part[3] if isinstance(thing, str)]
                self.assertEqual(len(made), len(set(made)))
                self.assertTrue(all(is_name(x) for x in made))

    def test_ordinary(self):
        self.check(X, {"x": num(3)}, num(3))
        self.check(X, {"y": num(3)}, X)
        self.check(X, {}, X)
        self.check(plus(X, Y), {"x": num(3)}, plus(num(3), Y))
        self.check(plus(X, X), {"x": plus(Y, Z)}, plus(plus(Y, Z), plus(Y, Z)))
        self.check(call("p.f", X, num(1), Y), {"x": Z, "y": num(2)}, call("p.f", Z, num(1), num(2)))
        self.check(use("duo", "LIT", 3), {"x": num(2)}, use("duo", "LIT", 3))

    def test_at_once(self):
        self.check(plus(X, Y), {"x": Y, "y": X}, plus(Y, X))
        self.check(plus(X, Y), {"x": Y, "y": num(1)}, plus(Y, num(1)))
        self.check(X, {"x": plus(X, num(1))}, plus(X, num(1)))
        self.check(let("x", X, plus(X, Y)), {"y": plus(Y, Y)}, let("x", X, plus(X, plus(Y, Y))))

    def test_bound_names_do_not_give_way(self):
        self.check(let("x", X, X), {"x": num(1)}, let("x", num(1), X))
        self.check(loop(X, "x", X, X), {"x": num(1)}, loop(num(1), "x", num(1), X))
        term = two("x", "y", plus(X, Y), plus(X, Y), plus(X, Y), plus(X, Y))
        due = two("x", "y", plus(X, num(2)), plus(X, Y), plus(num(1), num(2)), plus(num(1), Y))
        self.check(term, {"x": num(1), "y": num(2)}, due)

    def test_a_free_name_that_would_be_caught(self):
        a = name("a")
        self.check(let("x", Z, plus(X, Y)), {"y": X}, let("a", Z, plus(a, X)))
        self.check(let("x", Y, plus(X, Y)), {"y": plus(X, num(1))}, let("a", plus(X, num(1)), plus(a, plus(X, num(1)))))
        self.check(let("x", Z, Y), {"y": X}, let("a", Z, X))
        self.check(loop(Y, "x", Y, Y), {"y": X}, loop(X, "a", X, X))
        self.check(let("x", Z, let("x", X, plus(X, Y))), {"y": X}, let("a", Z, let("b", a, plus(name("b"), X))))

    def test_caught_by_one_of_two_names(self):
        term = two("x", "y", plus(X, Z), plus(plus(X, Y), Z), plus(X, Y), plus(Y, Z))
        put = plus(X, Y)
        a, b = name("a"), name("b")
        due = two("a", "b", plus(a, put), plus(plus(a, b), put), plus(X, Y), plus(b, put))
        self.check(term, {"z": put}, due)
        self.check(term, {"z": Y}, two("x", "b", plus(X, Y), plus(plus(X, b), Y), plus(X, Y), plus(b, Y)))

    def test_new_names_catch_nothing(self):
        # All names of one letter are in use, in the term or in what is put in.
        row = [name(x) for x in "abcdefghijklmnopqrstuvw"]
        term = let("x", Y, call("p.f", X, Z, *row))
        put = call("p.g", X, Y, *row)
        self.check(term, {"z": put}, let("other", Y, call("p.f", name("other"), put, *row)))
        within = let("x", Z, let("y", X, call("p.f", X, Y, Z, *row)))
        due = let("other", put, let("second", name("other"), call("p.f", name("other"), name("second"), put, *row)))
        self.check(within, {"z": put}, due)

    def test_names_that_nothing_is_opened_to(self):
        mark = use("duo", "MARK", "x", 3)
        self.check(mark, {"x": num(1)}, mark)
        self.check(plus(mark, X), {"x": plus(X, Y)}, plus(mark, plus(X, Y)))
        self.check(let("x", X, plus(mark, Y)), {"y": X}, let("a", X, plus(use("duo", "MARK", "b", 3), X)))

    def test_new_names_are_not_put_in(self):
        for other in "abcdefghijklmnopqrstuvw":
            term = let("x", num(1), plus(X, Z))
            self.check(term, {"z": X, other: num(9)}, let("q", num(1), plus(name("q"), X)))

    def test_any_terms(self):
        chance = random.Random(2)
        for _ in range(1000):
            term = some_term(chance, 3)
            some = {x: some_term(chance, 2) for x in chance.sample("abcd", chance.randrange(4))}
            told = put_in(TOWER, term, some)
            self.assertEqual(plain(told), plain(put_plainly(plain(term), some)), (term, some))
            for part in parts(told):
                made = [thing for thing in part[3] if isinstance(thing, str)] if part[0] == "use" else []
                self.assertEqual(len(made), len(set(made)))

    def test_again_and_again_ahead(self):
        term = plus(X, Y)
        due = plus(X, Y)
        for at in range(400):
            term = put_in(TOWER, let("x", Y, plus(X, Z)), {"z": term})
            due = let(letters(at), Y, plus(name(letters(at)), due))
        self.assertEqual(deep(term), 801)
        self.assertEqual(free_names(TOWER, term), ("y", "x"))
        self.assertTrue(are_alike(TOWER, term, due))

    def test_again_and_again_within(self):
        term = let("x", Y, plus(X, Z))
        for _ in range(400):
            term = put_in(TOWER, term, {"z": let("x", Y, plus(X, plus(X, Z)))})
        term = put_in(TOWER, term, {"z": plus(X, Z)})
        self.assertEqual(deep(term), 2 + 400 * 3 + 1)
        self.assertEqual(free_names(TOWER, term), ("y", "x", "z"))
        due = plus(X, Z)
        for at in range(400):
            bound = name(letters(at))
            due = let(letters(at), Y, plus(bound, plus(bound, due)))
        self.assertTrue(are_alike(TOWER, term, let("first", Y, plus(name("first"), due))))

    def test_a_deep_term_gives_way(self):
        put = nested(2000, X, lambda inner, at: plus(inner, Y))
        told = put_in(TOWER, let("x", Z, plus(Z, X)), {"z": put})
        self.assertEqual(deep(told), 2002)
        self.assertEqual(len(parts(told)), 2 * 4001 + 3)
        self.assertEqual(free_names(TOWER, told), ("x", "y"))

    def test_what_is_handed_in_stays(self):
        some = {"y": X, "z": num(1)}
        term = let("x", Y, plus(X, Y))
        first = put_in(TOWER, term, some)
        self.assertEqual(some, {"y": X, "z": num(1)})
        self.assertEqual(term, let("x", Y, plus(X, Y)))
        some.clear()
        self.assertEqual(put_in(TOWER, term, some), term)
        self.assertEqual(put_in(TOWER, term, {"y": X, "z": num(1)}), first)

    def test_by_name(self):
        self.assertEqual(put_in(tower=TOWER, term=X, some={"x": num(1)}), num(1))


class AlikeTest(unittest.TestCase):
    def check(self, one, other, due):
        self.assertIs(are_alike(TOWER, one, other), due)
        self.assertIs(are_alike(TOWER, other, one), due)
        self.assertIs(are_alike(TOWER, one, one), True)

    def test_the_same(self):
        for term in (X, num(1), call("p.f", X, num(2)), let("x", X, X), two("x", "y", X, Y, X, Y)):
            self.check(term, term, True)

    def test_other_bound_names(self):
        self.check(let("x", Z, plus(X, Z)), let("y", Z, plus(Y, Z)), True)
        self.check(loop(X, "x", X, X), loop(X, "y", X, Y), True)
        self.check(let("x", num(1), num(2)), let("y", num(1), num(2)), True)
        self.check(let("x", num(1), let("y", X, plus(X, Y))), let("y", num(1), let("x", Y, plus(Y, X))), True)
        self.check(let("x", num(1), let("y", X, Y)), let("x", num(1), let("x", X, X)), True)
        self.check(two("x", "y", X, plus(X, Y), Z, Y), two("y", "x", Y, plus(Y, X), Z, X), True)
        a, b = name("a"), name("b")
        self.check(two("x", "y", X, plus(X, Y), X, Y), two("a", "b", a, plus(a, b), X, b), True)

    def test_unlike_bindings(self):
        self.check(let("x", Z, X), let("y", Z, X), False)
        self.check(let("x", Z, Y), let("y", Z, Y), False)
        self.check(let("x", Z, Y), let("x", Z, X), False)
        self.check(let("x", X, X), let("y", Y, Y), False)
        self.check(let("x", num(1), let("y", X, X)), let("x", num(1), let("y", X, Y)), False)
        self.check(let("x", num(1), let("y", X, X)), let("x", num(1), let("x", X, X)), False)
        self.check(two("x", "y", X, X, Z, Z), two("x", "y", X, Y, Z, Z), False)
        self.check(two("x", "y", Z, X, Z, Z), two("y", "x", Z, X, Z, Z), False)
        self.check(two("x", "y", Y, Z, Z, Z), two("x", "z", Y, name("a"), Z, Z), False)
        self.check(two("x", "y", Z, Z, X, Y), two("y", "x", Z, Z, Y, X), False)
        self.check(two("x", "y", Z, Z, Z, Y), two("y", "x", Z, Z, Z, X), True)

    def test_one_name_around_two(self):
        a, b, c = name("a"), name("b"), name("c")
        for one in (a, b, c, Z):
            for other in (a, b, c, Z):
                term = let("c", num(1), two("a", "b", num(1), one, num(1), num(1)))
                twin = let("c", num(1), two("a", "b", num(1), other, num(1), num(1)))
                self.check(term, twin, one == other)
        self.check(use("duo", "MARK", "a", 1), use("duo", "MARK", "b", 1), True)
        self.check(use("duo", "MARK", "a", 1), use("duo", "MARK", "a", 2), False)

    def test_differing_at_one_place(self):
        term = let("x", call("p.f", num(1), Y), plus(X, use("duo", "LIT", 2)))
        self.check(term, let("x", call("p.g", num(1), Y), plus(X, use("duo", "LIT", 2))), False)
        self.check(term, let("x", call("p.f", num(2), Y), plus(X, use("duo", "LIT", 2))), False)
        self.check(term, let("x", call("p.f", num(1), Z), plus(X, use("duo", "LIT", 2))), False)
        self.check(term, let("x", call("p.f", num(1)), plus(X, use("duo", "LIT", 2))), False)
        self.check(term, let("x", call("p.f", num(1), Y, Y), plus(X, use("duo", "LIT", 2))), False)
        self.check(term, let("x", call("p.f", Y, num(1)), plus(X, use("duo", "LIT", 2))), False)
        self.check(term, let("x", call("p.f", num(1), Y), plus(X, use("duo", "LIT", 3))), False)
        self.check(term, let("x", call("p.f", num(1), Y), plus(X, num(2))), False)
        self.check(term, let("x", call("p.f", num(1), Y), use("ground", "-", X, use("duo", "LIT", 2))), False)
        self.check(term, let("x", call("p.f", num(1), Y), use("duo", "ADD", X, use("duo", "LIT", 2))), False)
        self.check(term, use("duo", "SET", "x", call("p.f", num(1), Y), plus(X, use("duo", "LIT", 2))), False)
        self.check(term, let("x", call("p.f", num(1), Y), X), False)
        self.check(term, X, False)
        self.check(X, num(1), False)
        self.check(X, Y, False)
        self.check(X, call("x.x"), False)

    def test_one_head_in_two_tongues(self):
        other = ("tongue", "other", "ground", (("k", "num"),), (), (), (DUO[6][0],))
        self.assertIs(are_alike((DUO, other), use("duo", "LIT", 1), use("other", "LIT", 1)), False)

    def test_any_terms(self):
        chance = random.Random(3)
        alike = 0
        for _ in range(3000):
            one, other = some_term(chance, 1), some_term(chance, 1)
            due = plain(one) == plain(other)
            self.assertIs(are_alike(TOWER, one, other), due, (one, other))
            alike += due
        self.assertGreater(alike, 20)

    def test_one_place_changed(self):
        chance = random.Random(4)
        told = {True: 0, False: 0}
        for _ in range(500):
            one = some_term(chance, 3)
            names = dict(zip("abc", chance.sample("abc", 3)))
            other = swapped(one, names, chance)
            due = plain(one) == plain(other)
            self.assertIs(are_alike(TOWER, one, other), due, (one, other))
            told[due] += 1
        self.assertGreater(min(told.values()), 50)

    def test_hundreds_deep(self):
        for inner, due in ((name("zz"), True), (name("z"), False), (num(1), False)):
            one = nested(1200, name("zz"), lambda term, at: let("x", X, plus(X, term)))
            other = inner
            for at in range(1200):
                around = letters(at + 1) if at < 1199 else "x"
                other = let(letters(at), name(around), plus(name(letters(at)), other))
            self.check(one, other, due)

    def test_by_name_and_again(self):
        for _ in range(2):
            self.assertIs(are_alike(tower=TOWER, one=let("x", Z, X), other=let("y", Z, Y)), True)
            self.assertIs(are_alike(tower=TOWER, one=X, other=Y), False)


def swapped(term, names, chance):
    """A term in which names, bound and free ones, are exchanged, though seldom here and there not."""
    if term[0] == "name":
        return name(names[term[1]] if chance.random() < 0.9 else term[1])
    if term[0] == "call":
        return call(term[1], *[swapped(inner, names, chance) for inner in term[2]])
    things = [swapped(t, names, chance) if isinstance(t, tuple) else names.get(t, t) for t in term[3]]
    return use(*term[1:3], *things)


if __name__ == "__main__":
    unittest.main()
