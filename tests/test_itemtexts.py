import random
import unittest

from tests.chance import Chance
from tests.plainreader import PlainReader
from tests.samples import DUO, FAR, LIB, MID, QUAD, REST, TOWER, TRIO, call, choose, ground, hole, let, lit, made
from tests.samples import name, nested, num, own, plus, times, turn, use
from tests.tongues_made import LIT, LOW, NAME, NUM, form, function, part, term, tongue
from tonguetower.folding import folded
from tonguetower.itemreader import read_item
from tonguetower.itemtexts import item_text
from tonguetower.meanings import meaning_parts
from tonguetower.terms import parts
from tonguetower.tonguelook import look_tongue
from tonguetower.towers import face_of, look_part, look_tower

X = name("x")

DUO_TEXT = """tongue duo on ground
kind n is num
kind b is num
fault dry
fault odd
tells odd dry
form LIT # to n
means NUM #0
form ADD n ', n to n
means + $0 $1
form LESS n '< n to b
means < $0 $1
form SET @n '= n '; n:0 to n
means LET @0 $0 $1
form TWO @n n:0 @b n:0,1 n b:1 to n
means LET @0 $2 LET @1 $0 + $1 $3
form MARK @n '= # to n
means LET @0 NUM #0 @0"""

TRIO_TEXT = """tongue trio on duo
kind m is n
kind t is b
fault gone
fault bad
tells bad gone
form ONE to m
means LIT 1
form IS m m to t
means LESS $0 < $1"""


def tongue_text(*rows):
    head = ["tongue t on ground", "kind n is num", "fault bad", "fault worse", "tells bad worse"]
    return "\n".join([*head, *rows])


class TextTest(unittest.TestCase):
    def check(self, ahead, item, text):
        """An item let by has a text, and is read from it."""
        self.assertIs((look_tongue if item[0] == "tongue" else look_part)(ahead, item), True)
        self.assertEqual(item_text(ahead, item), text)
        self.assertEqual(read_item(ahead, text), item)

    def check_form(self, one, *rows, ahead=(LOW,)):
        self.check(ahead, tongue(one), tongue_text(*rows))

    def check_meaning(self, meaning, words, items=(), ahead=(LOW,)):
        one = form("A", items, meaning)
        told = item_text(ahead, tongue(one))
        self.assertEqual(told.split("\n")[-1], f"means {words}")
        self.assertEqual(read_item(ahead, told), tongue(one))
        self.assertIs(look_tongue(ahead, tongue(one)), True)

    def test_tongues(self):
        self.check((), DUO, DUO_TEXT)
        self.check((DUO,), TRIO, TRIO_TEXT)
        rows = ["tongue quad on trio", "kind k is m", "kind l is t", "kind o is m", "fault end", "tells end end"]
        self.check((DUO, TRIO), QUAD, "\n".join(rows))
        self.assertEqual(item_text(ahead=(DUO,), item=TRIO), TRIO_TEXT)
        self.assertEqual(read_item(ahead=(DUO,), text=TRIO_TEXT), TRIO)

    def test_parts(self):
        rows = ["part lib in ground", "def zero to num = NUM 0", "def one x num to num = x"]
        self.check((), LIB, "\n".join([*rows, "def two x num y num to num = + x y"]))
        rows = ["part mid in duo", "def inc x n to n = ADD x , LIT 1", "def is x n y b to b = y"]
        self.check((DUO,), MID, "\n".join(rows))
        self.check((), ("part", "p", "ground", ()), "part p in ground")

    def test_faces(self):
        self.check((DUO,), FAR, "face far in duo\ndef off b to n\ndef all to b")
        self.check((), ("face", "p", "ground", ()), "face p in ground")
        rows = ["face lib in ground", "def zero to num", "def one num to num", "def two num num to num"]
        self.check((), face_of(LIB), "\n".join(rows))

    def test_tells_of_none(self):
        low = ("tongue", "low", "ground", (), ("a",), ("a", "a"), ())
        self.check((), low, "tongue low on ground\nfault a\ntells a a")
        # A tongue without faults can't stand on the ground, but on one that has none itself.
        none = ("tongue", "none", "ground", (), (), (), ())
        high = ("tongue", "high", "none", (), (), (), ())
        self.assertEqual(item_text((none,), high), "tongue high on none\ntells")
        self.assertEqual(read_item((none,), "tongue high on none\ntells"), high)
        faults = ("tongue", "high", "none", (), ("a", "b"), (), ())
        self.assertEqual(item_text((none,), faults), "tongue high on none\nfault a\nfault b\ntells")
        self.assertEqual(read_item((none,), item_text((none,), faults)), faults)

    def test_items(self):
        self.check_form(form("A", [], num(1)), "form A to n", "means NUM 1")
        items = [("sign", "+"), ("sign", "TO"), LIT, NAME, LIT, ("sign", "?")]
        row = "form A '+ 'TO # @n # '? to n"
        self.check_form(form("A", items, num(lit(1))), row, "means NUM #1")
        items = [term(), NAME, term(0), NAME, term(0, 1)]
        meaning = let(own(0), hole(0), let(own(1), hole(1), hole(2)))
        self.check_form(form(";", items, meaning), "form ; n @n n:0 @n n:0,1 to n", "means LET @0 $0 LET @1 $1 $2")

    def test_meanings(self):
        self.check_meaning(hole(1), "$1", [term(), term()])
        self.check_meaning(let("a", num(1), name("a")), "LET a NUM 1 a")
        self.check_meaning(let(own(0), num(1), name(own(0))), "LET @0 NUM 1 @0", [NAME])
        self.check_meaning(let(own(1), num(1), num(2)), "LET @1 NUM 1 NUM 2", [NAME, NAME])
        self.check_meaning(call("low.sum", hole(0), num(2)), "low.sum $0 NUM 2", [term()])
        self.check_meaning(choose(0, num(1)), ":choose 0 1 NUM 1")
        self.check_meaning(choose(lit(0), num(1), hole(0), num(3)), ":choose #0 3 NUM 1 $0 NUM 3", [LIT, term()])
        self.check_meaning(times(2, num(1), plus(REST, num(turn(0)))), ":times 2 NUM 1 + :rest NUM ~0")
        self.check_meaning(times(9, num(1), num(2)), ":times 9 NUM 1 NUM 2")

    def test_numbers(self):
        self.check_meaning(num(0), "NUM 0")
        self.check_meaning(num(999), "NUM 999")
        self.check_meaning(num(lit(1)), "NUM #1", [LIT, LIT])
        self.check_meaning(num(made("low.same", 5)), "NUM !low.same 5")
        inner = made("low.sum", made("low.same", lit(0)), made("low.sum", 1, 2))
        self.check_meaning(num(inner), "NUM !low.sum !low.same #0 !low.sum 1 2", [LIT])
        self.check_meaning(choose(made("low.same", 0), num(1)), ":choose !low.same 0 1 NUM 1")
        step = choose(turn(0), REST, num(made("low.same", turn(0))))
        words = ":times !low.same 3 NUM 1 :choose ~0 2 :rest NUM !low.same ~0"
        self.check_meaning(times(made("low.same", 3), num(1), step), words)
        none = part("low", "ground", function("none", (), num(1), "num"))
        self.check_meaning(plus(num(made("low.none")), num(3)), "+ NUM !low.none NUM 3", ahead=(none,))

    def test_kinds_and_names_that_look_like_other_words(self):
        one = ("tongue", "tongue", "ground", (("to", "num"), ("kind", "num")), ("to", "fault"), ("to", "fault"), ())
        rows = ["tongue tongue on ground", "kind to is num", "kind kind is num", "fault to", "fault fault"]
        self.check((), one, "\n".join([*rows, "tells to fault"]))
        forms = (("TO", (("term", "to", ()), ("name", "to")), "to", hole(0)),)
        text = "\n".join([*rows, "tells to fault", "form TO to @to to to", "means $0"])
        self.check((), (*one[:6], forms), text)
        p = ("part", "in", "tongue", (("to", (("to", "to"), ("def", "to")), "to", name("def")),))
        self.check((one,), p, "part in in tongue\ndef to to to def to to to = def")
        self.check((one,), face_of(p), "face in in tongue\ndef to to to to to")

    def test_a_sign_that_parts_a_row(self):
        equal = ("=", (("term", "n", ()), ("sign", "="), ("term", "n", ())), "n", ground("=", hole(0), hole(1)))
        self.check((), tongue(equal), tongue_text("form = n '= n to n", "means = $0 $1"))
        p = part("p", "t", function("f", (("x", "n"),), use("t", "=", X, X)))
        self.check((tongue(equal),), p, "part p in t\ndef f x n to n = = x = x")

    def test_bodies(self):
        body = let("a", num(3), call("low.sum", name("a"), ground("IF", X, num(0), num(999))))
        text = "part p in ground\ndef f x num to num = LET a NUM 3 low.sum a IF x NUM 0 NUM 999"
        self.check((LOW,), part("p", "ground", function("f", NUM, body, "num")), text)
        first = function("f", (), num(1), "num")
        p = part("p", "ground", first, function("g", (), call("p.f"), "num"))
        self.check((LOW,), p, "part p in ground\ndef f to num = NUM 1\ndef g to num = p.f")

    def test_whole_towers(self):
        for at, item in enumerate(TOWER):
            self.assertEqual(read_item(TOWER[:at], item_text(TOWER[:at], item)), item)

    def test_deep(self):
        body = nested(1500, X, lambda inner, at: plus(num(1), inner))
        p = part("p", "ground", function("f", NUM, body, "num"))
        found = read_item((), item_text((), p))
        self.assertEqual([one[:2] for one in parts(found[3][0][3])], [one[:2] for one in parts(body)])
        meaning = nested(1500, num(nested(1500, 1, lambda inner, at: made("low.same", inner))), choose_one)
        found = read_item((LOW,), item_text((LOW,), tongue(form("A", [], meaning))))
        self.assertEqual(len(meaning_parts(found[6][0][3])), 1501)
        self.assertEqual(item_text((LOW,), found), item_text((LOW,), tongue(form("A", [], meaning))))

    def test_folded_tongues(self):
        high = tongue(form("A", [term()], use("t", "B", hole(0))), called="u", below="t", meaning="n")
        low = tongue(form("B", [term()], let("a", hole(0), plus(name("a"), hole(0)))))
        found = folded((low, high), "u")
        text = item_text((low,), found)
        self.assertTrue(text.startswith("tongue u on ground\nkind n is num\n"))
        self.assertEqual(read_item((low,), text), found)

    def test_by_chance(self):
        texts = {}
        for seed in range(1100, 1130):
            tower = Chance(random.Random(seed)).good_tower()
            for at, item in enumerate(tower):
                text = item_text(tower[:at], item)
                self.assertEqual(read_item(tower[:at], text), item)
                self.assertEqual(PlainReader(tower[:at]).read(text), item)
                self.assertEqual(texts.setdefault(text, item), item)
        self.assertGreater(len(texts), 150)

    def test_unchanged_and_again(self):
        for _ in range(2):
            self.assertEqual(item_text((), DUO), DUO_TEXT)
        self.assertIs(look_tower(TOWER), True)


def choose_one(inner, _):
    return choose(0, inner)


if __name__ == "__main__":
    unittest.main()
