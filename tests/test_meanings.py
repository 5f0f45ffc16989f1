import unittest

from tests.samples import (
    REST,
    call,
    choose,
    ground,
    hole,
    let,
    lit,
    loop,
    made,
    name,
    nested,
    num,
    own,
    plus,
    times,
    turn,
    use,
)
from tonguetower.meanings import meaning_parts


class MeaningsTest(unittest.TestCase):
    def test_one_part(self):
        names = (name("x"), name(own(0)))
        for meaning in (hole(0), hole(-3), REST, *names, num(3), num(lit(0)), num(turn(1)), call("p.f")):
            self.assertEqual(meaning_parts(meaning), [meaning])
            self.assertIsInstance(meaning_parts(meaning), list)

    def test_as_they_stand(self):
        first = call("p.f", hole(0), plus(hole(1), num(2)))
        meaning = let(own(0), first, plus(name(own(0)), name("x")))
        row = [meaning, first, hole(0), plus(hole(1), num(2)), hole(1), num(2)]
        self.assertEqual(meaning_parts(meaning), row + [plus(name(own(0)), name("x")), name(own(0)), name("x")])

    def test_names_in_their_places_are_no_parts(self):
        meaning = loop(hole(0), own(1), num(1), let("y", hole(1), hole(2)))
        row = [meaning, hole(0), num(1), let("y", hole(1), hole(2)), hole(1), hole(2)]
        self.assertEqual(meaning_parts(meaning), row)

    def test_numbers_are_no_parts(self):
        for number in (7, lit(0), turn(0), made("p.f"), made("p.f", 1, lit(0), made("p.g", turn(0)))):
            self.assertEqual(meaning_parts(num(number)), [num(number)])
            meaning = choose(number, hole(0), hole(1))
            self.assertEqual(meaning_parts(meaning), [meaning, hole(0), hole(1)])
            meaning = times(number, hole(0), REST)
            self.assertEqual(meaning_parts(meaning), [meaning, hole(0), REST])

    def test_choose_and_times(self):
        step = plus(REST, num(turn(0)))
        inner = times(lit(0), hole(0), step)
        meaning = choose(lit(1), plus(hole(0), hole(1)), inner, REST)
        row = [meaning, plus(hole(0), hole(1)), hole(0), hole(1), inner, hole(0), step, REST, num(turn(0)), REST]
        self.assertEqual(meaning_parts(meaning), row)
        self.assertEqual(meaning_parts(choose(0)), [choose(0)])

    def test_times_within_times(self):
        inner = times(2, REST, plus(REST, hole(0)))
        meaning = times(1, hole(1), inner)
        row = [meaning, hole(1), inner, REST, plus(REST, hole(0)), REST, hole(0)]
        self.assertEqual(meaning_parts(meaning), row)

    def test_any_many_things_of_any_sort(self):
        meaning = use("duo", "LIT", 1, hole(0), "x", own(2), lit(3), name("x"), turn(4), made("p.f", 1), REST)
        self.assertEqual(meaning_parts(meaning), [meaning, hole(0), name("x"), REST])
        meaning = call("p.f", 5, "x", hole(0), own(1), lit(2), choose(0, 7, hole(1), "y", own(0)))
        self.assertEqual(meaning_parts(meaning), [meaning, hole(0), choose(0, 7, hole(1), "y", own(0)), hole(1)])

    def test_hundreds_deep(self):
        many = 1500
        for wrap in (
            lambda inner, at: plus(inner, num(at)),
            lambda inner, at: choose(at, hole(0), inner),
            lambda inner, at: times(at, hole(0), inner),
            lambda inner, at: call("p.f", hole(1), inner),
        ):
            row = meaning_parts(nested(many, REST, wrap))
            self.assertEqual(len(row), 2 * many + 1)
            self.assertEqual(row.count(REST), 1)

    def test_lists_are_new(self):
        meaning = plus(hole(0), hole(1))
        meaning_parts(meaning).clear()
        self.assertEqual(meaning_parts(meaning), [meaning, hole(0), hole(1)])

    def test_by_name(self):
        self.assertEqual(meaning_parts(meaning=ground("NUM", 2)), [ground("NUM", 2)])


if __name__ == "__main__":
    unittest.main()
