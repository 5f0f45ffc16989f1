import unittest

from tests.samples import call, let, loop, name, nested, num, plus, use
from tonguetower.terms import deep, parts


class TermsTest(unittest.TestCase):
    def test_parts_of_one(self):
        for term in (name("x"), num(0), num(999), call("p.f"), use("duo", "ONE"), use("duo", "BIND", "a", "b", 3)):
            self.assertEqual(parts(term), [term])
            self.assertIsInstance(parts(term), list)

    def test_parts_as_they_stand(self):
        inner = plus(name("a"), name("b"))
        first = call("p.f", inner, num(7))
        term = use("duo", "TWO", "x", first, "y", 5, name("c"), call("p.g"))
        row = [term, first, inner, name("a"), name("b"), num(7), name("c"), call("p.g")]
        self.assertEqual(parts(term), row)

    def test_parts_alike_stand_each(self):
        term = plus(name("x"), name("x"))
        self.assertEqual(parts(term), [term, name("x"), name("x")])

    def test_parts_of_unlike_tongues(self):
        term = use("duo", "ADD", plus(num(1), name("x")), use("trio", "ONE"))
        self.assertEqual(parts(term), [term, plus(num(1), name("x")), num(1), name("x"), use("trio", "ONE")])

    def test_deep(self):
        self.assertEqual(deep(name("x")), 0)
        self.assertEqual(deep(num(3)), 0)
        self.assertEqual(deep(call("p.f")), 0)
        self.assertEqual(deep(use("duo", "BIND", "a", 3)), 0)
        self.assertEqual(deep(call("p.f", name("x"))), 1)
        self.assertEqual(deep(plus(num(1), num(1))), 1)
        self.assertEqual(deep(let("x", num(1), plus(name("x"), num(1)))), 2)
        self.assertEqual(deep(let("x", plus(plus(num(1), num(1)), num(1)), num(1))), 3)
        self.assertEqual(deep(loop(call("p.f", call("p.g")), "x", num(1), name("x"))), 2)

    def test_hundreds_deep(self):
        for many in (40, 500, 5000):
            for wrap in (
                lambda inner, _: plus(inner, num(1)),
                lambda inner, _: plus(num(1), inner),
                lambda inner, _: call("p.f", inner),
                lambda inner, _: let("x", inner, name("x")),
            ):
                term = nested(many, name("x"), wrap)
                self.assertEqual(deep(term), many)
                row = parts(term)
                self.assertIs(row[0], term)
                self.assertEqual(len(row), len([part for part in row if part[0] in ("name", "call", "use")]))
                self.assertEqual(len(row), 1 + many * (1 + (wrap(name("x"), 0)[0] == "use")))

    def test_order_deep_within(self):
        term = nested(300, name("z"), lambda inner, at: plus(inner, num(at)))
        row = parts(term)
        self.assertEqual(row[300], name("z"))
        self.assertEqual(row[301:], [num(at) for at in range(300)])

    def test_lists_are_new(self):
        term = plus(num(1), num(2))
        row = parts(term)
        row.clear()
        self.assertEqual(parts(term), [term, num(1), num(2)])
        self.assertIsNot(parts(term), parts(term))

    def test_by_name(self):
        self.assertEqual(parts(term=num(1)), [num(1)])
        self.assertEqual(deep(term=call("p.f", num(1))), 1)


if __name__ == "__main__":
    unittest.main()
