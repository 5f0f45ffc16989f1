import unittest

from tests.samples import DUO, FAR, GROUND_TERMS, LIB, MID, QUAD, TOWER, TRIO
from tonguetower.tongues import GROUND, fault_up, form_of, kind_down, tongue_of

HEADS = ["NUM", "+", "-", "*", "/", "<", "=", "IF", "NEED", "LET", "LOOP"]


class GroundTest(unittest.TestCase):
    def test_ground(self):
        self.assertIsInstance(GROUND, tuple)
        self.assertEqual(GROUND[:6], ("tongue", "ground", "", (("num", ""),), ("nought", "need"), ()))
        self.assertEqual(len(GROUND), 7)

    def test_forms_in_order(self):
        self.assertIsInstance(GROUND[6], tuple)
        self.assertEqual([form[0] for form in GROUND[6]], HEADS)
        for form in GROUND[6]:
            self.assertEqual(len(form), 4)
            self.assertEqual(form[2], "num")
            self.assertIs(form[3], None)

    def test_items(self):
        items = {form[0]: form[1] for form in GROUND[6]}
        term = ("term", "num", ())
        for head, many in GROUND_TERMS.items():
            self.assertEqual(items[head], (term,) * many)
        self.assertEqual(items["NUM"], (("lit",),))
        self.assertEqual(items["LET"], (("name", "num"), term, ("term", "num", (0,))))
        self.assertEqual(items["LOOP"], (term, ("name", "num"), term, ("term", "num", (0,))))


class TonguesTest(unittest.TestCase):
    def test_tongue_of(self):
        self.assertEqual(tongue_of(TOWER, "duo"), DUO)
        self.assertEqual(tongue_of(TOWER, "trio"), TRIO)
        self.assertEqual(tongue_of(TOWER, "quad"), QUAD)
        self.assertEqual(tongue_of(TOWER, "ground"), GROUND)
        self.assertEqual(tongue_of((), "ground"), GROUND)

    def test_tongue_of_among_other_items(self):
        self.assertEqual(tongue_of((LIB, DUO, MID, FAR, TRIO), "trio"), TRIO)

    def test_form_of(self):
        for form in GROUND[6]:
            self.assertEqual(form_of((), "ground", form[0]), form)
            self.assertEqual(form_of(TOWER, "ground", form[0]), form)
        for tongue in (DUO, TRIO):
            for form in tongue[6]:
                self.assertEqual(form_of(TOWER, tongue[1], form[0]), form)

    def test_one_head_in_two_tongues(self):
        other = ("tongue", "other", "ground", (("k", "num"),), (), (), (("LIT", (), "k", ("call", "lib.zero", ())),))
        self.assertEqual(form_of((*TOWER, other), "other", "LIT"), other[6][0])
        self.assertEqual(form_of((*TOWER, other), "duo", "LIT"), DUO[6][0])

    def test_kind_down(self):
        self.assertEqual(kind_down(TOWER, "ground", "num", "ground"), "num")
        self.assertEqual(kind_down(TOWER, "duo", "b", "duo"), "b")
        self.assertEqual(kind_down(TOWER, "duo", "b", "ground"), "num")
        self.assertEqual(kind_down(TOWER, "trio", "m", "duo"), "n")
        self.assertEqual(kind_down(TOWER, "trio", "t", "duo"), "b")
        self.assertEqual(kind_down(TOWER, "trio", "t", "ground"), "num")
        self.assertEqual(kind_down(TOWER, "quad", "l", "quad"), "l")
        self.assertEqual(kind_down(TOWER, "quad", "l", "trio"), "t")
        self.assertEqual(kind_down(TOWER, "quad", "l", "duo"), "b")
        self.assertEqual(kind_down(TOWER, "quad", "o", "duo"), "n")
        self.assertEqual(kind_down(TOWER, "quad", "k", "ground"), "num")

    def test_fault_up(self):
        self.assertEqual(fault_up(TOWER, "need", "ground", "ground"), "need")
        self.assertEqual(fault_up(TOWER, "dry", "duo", "duo"), "dry")
        self.assertEqual(fault_up(TOWER, "nought", "ground", "duo"), "odd")
        self.assertEqual(fault_up(TOWER, "need", "ground", "duo"), "dry")
        self.assertEqual(fault_up(TOWER, "dry", "duo", "trio"), "bad")
        self.assertEqual(fault_up(TOWER, "odd", "duo", "trio"), "gone")
        self.assertEqual(fault_up(TOWER, "nought", "ground", "trio"), "gone")
        self.assertEqual(fault_up(TOWER, "need", "ground", "trio"), "bad")
        self.assertEqual(fault_up(TOWER, "nought", "ground", "quad"), "end")
        self.assertEqual(fault_up(TOWER, "bad", "trio", "quad"), "end")
        self.assertEqual(fault_up(TOWER, "end", "quad", "quad"), "end")

    def test_same_names_on_several_floors(self):
        low = ("tongue", "low", "ground", (("a", "num"), ("b", "num")), ("f", "g"), ("g", "f"), ())
        mid = ("tongue", "mid", "low", (("a", "b"), ("b", "a")), ("f", "g"), ("g", "f"), ())
        top = ("tongue", "top", "mid", (("a", "b"), ("b", "a")), ("f", "g"), ("f", "f"), ())
        tower = (low, mid, top)
        self.assertEqual(kind_down(tower, "top", "a", "top"), "a")
        self.assertEqual(kind_down(tower, "top", "a", "mid"), "b")
        self.assertEqual(kind_down(tower, "top", "a", "low"), "a")
        self.assertEqual(kind_down(tower, "mid", "a", "low"), "b")
        self.assertEqual(fault_up(tower, "f", "low", "mid"), "g")
        self.assertEqual(fault_up(tower, "nought", "ground", "mid"), "f")
        self.assertEqual(fault_up(tower, "need", "ground", "mid"), "g")
        self.assertEqual(fault_up(tower, "g", "mid", "top"), "f")
        self.assertEqual(fault_up(tower, "g", "low", "top"), "f")

    def test_by_names_and_again(self):
        for _ in range(2):
            self.assertEqual(tongue_of(tower=TOWER, name="duo"), DUO)
            self.assertEqual(form_of(tower=TOWER, tongue="duo", head="LIT"), DUO[6][0])
            self.assertEqual(kind_down(tower=TOWER, tongue="trio", kind="t", below="duo"), "b")
            self.assertEqual(fault_up(tower=TOWER, fault="dry", below="duo", tongue="trio"), "bad")


if __name__ == "__main__":
    unittest.main()
