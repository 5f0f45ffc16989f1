import random
import unittest

from tests.chance import Chance
from tests.plainreader import PlainReader
from tests.refusals import RefusalTest
from tests.samples import DUO, FAR, LIB, MID, REST, TOWER, TRIO, call, choose, hole, let, lit, made, name
from tests.samples import num, own, plus, times, turn, use
from tests.test_itemtexts import DUO_TEXT, TRIO_TEXT, tongue_text
from tests.tongues_made import LOW
from tonguetower.errors import BadText, NoPart, NoTongue, TowerError
from tonguetower.itemreader import read_item
from tonguetower.itemtexts import item_text
from tonguetower.tonguelook import look_tongue
from tonguetower.towers import look_part, look_tower

X = name("x")
NO_NAMES = ("", "A", "Ab", "abcdefg", "a1", "a.b", "1", "+", "\u00e4", "'a", "@a", "#", "a:0")
NO_SIGNS = ("", "a", "Aa", "ABCDEFG", "++", "|", "!", "#", "1", "A1", "\u00c4")
NO_FIGURES = ("", "00", "01", "1000", "-1", "+1", "1.", "a", "1a", " ", "\u0663", "1_0", "0x1")


def told(ahead, text):
    """The item that is read, or the number of the row that is refused."""
    try:
        return read_item(ahead, text)
    except BadText as error:
        return error.row


class ReaderTest(RefusalTest):
    def bad(self, text, row, ahead=TOWER):
        self.refused(BadText, {"row": row}, read_item, ahead, text)
        self.assertEqual(PlainReader(ahead).read(text), row)

    def reads(self, text, item, ahead=TOWER):
        self.assertEqual(read_item(ahead, text), item)
        self.assertEqual(PlainReader(ahead).read(text), item)


class PlaceTest(ReaderTest):
    def test_the_first_row(self):
        for row in (
            "",
            " ",
            "\n",
            "tongue",
            "tongue t",
            "tongue t on",
            "tongue t on ground more",
            "tongue t in ground",
        ):
            self.bad(row, 0)
        rows = [
            "part p on duo",
            "face p on duo",
            "part p in duo ",
            " part p in duo",
            "part  p in duo",
            "part p in  duo",
        ]
        rows += [
            "Part p in duo",
            "parts p in duo",
            "p in duo",
            "part in duo",
            "kind n is num",
            "tells a b",
            "def f to n",
        ]
        for row in rows:
            self.bad(row, 0)
            self.bad(f"{row}\ntells bad", 0)
        self.assertTrue(issubclass(BadText, TowerError))

    def test_names(self):
        for text in NO_NAMES:
            self.bad(f"tongue {text} on ground\ntells", 0)
            self.bad(f"part {text} in ground", 0)
            self.bad(f"face {text} in ground", 0)

    def test_the_tongue_that_is_not_there(self):
        for text in ("none", "lib", "far", "num", "p", "t", "", "DUO"):
            self.bad(f"tongue t on {text}\ntells", 0)
            self.bad(f"part p in {text}", 0)
            self.bad(f"face p in {text}", 0)
        self.bad("part p in duo", 0, ahead=())
        self.bad("part p in trio", 0, ahead=(DUO,))
        self.reads("part p in duo", ("part", "p", "duo", ()), ahead=(DUO,))
        self.reads("part p in ground", ("part", "p", "ground", ()), ahead=())

    def test_names_that_are_taken(self):
        # They are read, but not let by.
        for text in ("duo", "lib", "far", "ground"):
            self.reads(f"part {text} in duo", ("part", text, "duo", ()))
            self.reads(f"face {text} in duo", ("face", text, "duo", ()))
            self.reads(f"tongue {text} on duo\ntells", ("tongue", text, "duo", (), (), (), ()))
        self.refused(NoPart, {"word": "name", "function": "", "at": -1}, look_part, TOWER, ("part", "duo", "duo", ()))


class TongueRowsTest(ReaderTest):
    def test_each_word_left_out_or_exchanged(self):
        for text, ahead in ((DUO_TEXT, ()), (TRIO_TEXT, (DUO,))):
            rows = text.split("\n")
            for at, row in enumerate(rows):
                words = row.split(" ")
                for k in range(len(words)):
                    self.same(ahead, rows, at, [*words[:k], *words[k + 1 :]])
                    for word in ("", "n", "A", "'A", "#", "0", "is", "to", "$0", "@0", "@n", "n:0", "NUM", "zz"):
                        self.same(ahead, rows, at, [*words[:k], word, *words[k + 1 :]])
                        self.same(ahead, rows, at, [*words[:k], word, *words[k:]])

    def same(self, ahead, rows, at, words):
        text = "\n".join([*rows[:at], " ".join(words), *rows[at + 1 :]])
        self.assertEqual(told(ahead, text), PlainReader(ahead).read(text))

    def test_each_row_left_out_or_twice_or_exchanged(self):
        rows = DUO_TEXT.split("\n")
        for at in range(len(rows)):
            less = rows[:at] + rows[at + 1 :]
            self.assertEqual(told((), "\n".join(less)), PlainReader(()).read("\n".join(less)))
            twice = rows[: at + 1] + rows[at:]
            self.assertEqual(told((), "\n".join(twice)), PlainReader(()).read("\n".join(twice)))
            for k in range(at):
                row = list(rows)
                row[k], row[at] = row[at], row[k]
                self.assertEqual(told((), "\n".join(row)), PlainReader(()).read("\n".join(row)))

    def test_rows_in_their_order(self):
        rows = DUO_TEXT.split("\n")
        self.bad("\n".join([rows[0], rows[3], rows[1], *rows[2:]]), 2, ahead=())
        self.bad("\n".join([rows[0], rows[5], rows[1]]), 2, ahead=())
        self.bad("\n".join([*rows[:5], *rows[6:]]), 5, ahead=())
        self.bad("\n".join([*rows[:6], rows[5], *rows[6:]]), 6, ahead=())
        self.bad("\n".join([*rows[:6], rows[7]]), 6, ahead=())
        self.bad("\n".join([*rows[:8], rows[7]]), 8, ahead=())
        self.bad("\n".join([*rows[:7], rows[8]]), 7, ahead=())
        self.bad("\n".join([*rows, rows[0]]), len(rows), ahead=())
        self.bad("\n".join([*rows, "kind c is num"]), len(rows), ahead=())

    def test_a_row_that_lacks(self):
        self.bad("tongue t on ground", 1)
        self.bad("tongue t on ground\nkind n is num", 2)
        self.bad("tongue t on ground\nkind n is num\nfault a\nfault b", 4)
        self.bad(tongue_text("form A to n"), 6)
        self.bad(tongue_text("form A to n", "means NUM 1", "form B to n"), 8)
        self.reads("tongue t on ground\ntells", ("tongue", "t", "ground", (), (), (), ()))

    def test_a_row_at_the_end_that_is_empty(self):
        for text, ahead in ((DUO_TEXT, ()), ("part p in ground", ()), ("face p in ground", ())):
            self.bad(f"{text}\n", len(text.split("\n")), ahead=ahead)
        self.bad("tongue t on ground\ntells\n", 2)
        self.bad("tongue t on ground\n\ntells", 1)

    def test_kinds_faults_and_tells(self):
        for text in NO_NAMES:
            self.bad(f"tongue t on ground\nkind {text} is num\ntells", 1)
            self.bad(f"tongue t on ground\nkind n is {text}\ntells", 1)
            self.bad(f"tongue t on ground\nfault {text}\ntells", 1)
            self.bad(f"tongue t on ground\ntells {text}", 1)
            self.bad(f"tongue t on ground\nfault a\ntells a {text}", 2)
        for row in ("kind", "kind n", "kind n is", "kind n num", "kind n to num", "kind n is num x", "kind n is num "):
            self.bad(f"tongue t on ground\n{row}\ntells", 1)
        for row in ("fault", "fault a b", "fault  a", "faults a", "fault a "):
            self.bad(f"tongue t on ground\n{row}\ntells", 1)
        for row in ("tell a", "Tells", "tells ", " tells", "tells a  b", "tells a,b"):
            self.bad(f"tongue t on ground\n{row}", 1)

    def test_forms(self):
        for text in NO_NAMES:
            self.bad(tongue_text(f"form A to {text}", "means NUM 1"), 5)
            self.bad(tongue_text(f"form A @{text} to n", "means NUM 1"), 5)
            self.bad(tongue_text(f"form A {text}:0 to n", "means NUM 1"), 5)
        for text in NO_SIGNS:
            self.bad(tongue_text(f"form {text} to n", "means NUM 1"), 5)
            self.bad(tongue_text(f"form A '{text} to n", "means NUM 1"), 5)
        for text in NO_FIGURES:
            self.bad(tongue_text(f"form A @n n:{text} to n", "means NUM 1"), 5)
            self.bad(tongue_text(f"form A @n n:0,{text} to n", "means NUM 1"), 5)
            self.bad(tongue_text(f"form A @n n:{text},0 to n", "means NUM 1"), 5)
        rows = ["form", "form A", "form A to", "form A n", "form to n", "form A n n", "form A  to n", "form A to n "]
        rows += [
            "form A ## to n",
            "form A #0 to n",
            "form A $0 to n",
            "form A @ to n",
            "form A ' to n",
            "form A n: to n",
        ]
        rows += [
            "form A n:0: to n",
            "form A :0 to n",
            "form A @n:0 to n",
            "Form A to n",
            "form A to n to",
            "form A n:0,, to n",
        ]
        for row in rows:
            self.bad(tongue_text(row, "means NUM 1"), 5)

    def test_forms_that_are_not_let_by(self):
        """Kinds, what opens opens, heads of one name: that isn't looked at."""
        cases = [
            ("form A x to n", ("A", (("term", "x", ()),), "n", num(1)), "kind"),
            ("form A to x", ("A", (), "x", num(1)), "gives"),
            ("form A @x to n", ("A", (("name", "x"),), "n", num(1)), "kind"),
            ("form A n:0 to n", ("A", (("term", "n", (0,)),), "n", num(1)), "opens"),
            ("form A @n @n n:1,0 to n", ("A", (("name", "n"),) * 2 + (("term", "n", (1, 0)),), "n", num(1)), "opens"),
            ("form A @n n:0,0 to n", ("A", (("name", "n"), ("term", "n", (0, 0))), "n", num(1)), "opens"),
            ("form A n:999 to n", ("A", (("term", "n", (999,)),), "n", num(1)), "opens"),
        ]
        for row, one, word in cases:
            text = tongue_text(row, "means NUM 1")
            item = ("tongue", "t", "ground", (("n", "num"),), ("bad", "worse"), ("bad", "worse"), (one,))
            self.reads(text, item, ahead=())
            with self.assertRaises(NoTongue) as caught:
                look_tongue((), item)
            self.assertEqual(caught.exception.word, word)
        text = tongue_text(*["form A to n", "means NUM 1"] * 2)
        self.assertEqual(len(read_item((), text)[6]), 2)
        text = "tongue t on ground\nkind n is none\nkind n is num\nfault a\nfault a\ntells b b b"
        item = ("tongue", "t", "ground", (("n", "none"), ("n", "num")), ("a", "a"), ("b", "b", "b"), ())
        self.reads(text, item)


class MeansTest(ReaderTest):
    def of(self, words, items="# @n n"):
        return tongue_text(f"form A {items} to n", f"means {words}")

    def means(self, words, meaning):
        """A meaning is read, whether or not it is let by."""
        text = self.of(words)
        self.assertEqual(read_item((LOW,), text)[6][0][3], meaning)
        self.assertEqual(PlainReader((LOW,)).read(text)[6][0][3], meaning)

    def never(self, *rows, ahead=(LOW,)):
        for words in rows:
            self.bad(self.of(words), 6, ahead=ahead)

    def test_what_is_read(self):
        self.means("NUM 1", num(1))
        self.means("+ NUM #0 $0", plus(num(lit(0)), hole(0)))
        self.means("LET @0 x LET q $0 @0", let(own(0), X, let("q", hole(0), name(own(0)))))
        self.means(":choose ~3 2 :rest low.sum $9 y", choose(turn(3), REST, call("low.sum", hole(9), name("y"))))
        self.means(
            ":times !low.sum #1 !low.same 7 :rest $0",
            times(made("low.sum", lit(1), made("low.same", 7)), REST, hole(0)),
        )
        self.means(":choose 0 0", choose(0))
        self.means("$999", hole(999))
        self.means("@999", name(own(999)))
        self.means("NUM ~999", num(turn(999)))
        self.means("NUM #999", num(lit(999)))
        self.means("LET @7 :rest :rest", let(own(7), REST, REST))

    def test_figures(self):
        for text in NO_FIGURES:
            self.never(f"NUM {text}", f"NUM #{text}", f"NUM ~{text}", f"${text}", f"@{text}", f"LET @{text} $0 $0")
            self.never(f":choose {text} 1 $0", f":choose 0 {text} $0", f":times {text} $0 $0", f"NUM !low.same {text}")

    def test_other_sorts(self):
        self.never(
            "1", "#0", "~0", "!low.same 1", "", " ", "NUM", "NUM $0", "NUM x", "NUM @0", "NUM NUM 1", "NUM :rest"
        )
        self.never("LET NUM 1 NUM 1", "LET $0 NUM 1 NUM 1", "LET #0 NUM 1 NUM 1", "LET A NUM 1 NUM 1", "LET 1 $0 $0")
        self.never("+ 1 2", "+ #0 $0", ":choose $0 1 $0", ":choose x 1 $0", ":choose 0 #0 $0", ":choose 0 x", ":rest 0")
        self.never(
            ":times $0 $0 $0", ":times x $0 $0", "low.same 1", "low.same #0", "NUM !low.same $0", "NUM low.same 1"
        )
        self.never(
            ":", ":x", ":Rest", ":choose", ":times", ":rests", "$", "@", "$a", "@a", "!low.same", "'x", "&0", "%0"
        )

    def test_too_few_and_too_many(self):
        for words in ("+ $0 $0", "LET @0 $0 $0", ":choose 0 2 $0 $0", ":times 1 $0 + :rest $0"):
            row = words.split(" ")
            for many in range(len(row)):
                self.never(" ".join(row[:many]))
            for more in ("", "$0", "x", "1", "NUM 1", ":rest"):
                self.never(f"{words} {more}")
        self.never("low.sum $0", "low.sum $0 $0 $0", "low.same", "NUM !low.sum 1", "NUM !low.same 1 2", "NUM 1 2")
        self.never(":choose 0 3 $0 $0", ":choose 0 1 $0 $0", ":choose 0 0 $0", ":times 1 $0")

    def test_two_blanks(self):
        self.never("NUM  1", " NUM 1", "NUM 1 ", "+ $0  $0")
        self.bad(tongue_text("form A to n", "means"), 6)
        self.bad(tongue_text("form A to n", "means "), 6)
        self.bad(tongue_text("form A to n", "Means NUM 1"), 6)
        self.bad(tongue_text("form A to n", " means NUM 1"), 6)

    def test_heads_and_calls_that_are_not_there(self):
        self.never("ADD $0 , $0", "A", "none.f", "low.none", "far.off $0", "mid.inc $0")
        self.means("num", name("num"))
        self.never("NUM #low.same 1", "NUM ~low.same 1", "NUM xlow.same 1", "NUM low.same 1", "!low.same 1")
        self.bad(self.of("none.f"), 6, ahead=())
        self.bad(self.of("NUM !none.f"), 6, ahead=())
        self.bad(self.of("low.same $0"), 6, ahead=())

    def test_calls_in_whichever_tongue(self):
        # mid's functions are written in duo: the call is read, but not let by.
        text = self.of("mid.inc $0")
        item = read_item((DUO, MID), text)
        self.assertEqual(item[6][0][3], call("mid.inc", hole(0)))
        self.refused(NoTongue, {"word": "call", "head": "A", "at": 0}, look_tongue, (DUO, MID), item)
        item = read_item((DUO, MID, FAR), self.of("NUM !far.off !mid.is 1 2"))
        self.assertEqual(item[6][0][3], num(made("far.off", made("mid.is", 1, 2))))
        self.assertIs(look_tongue((DUO, MID, FAR), item), True)

    def test_forms_of_the_tongue_beneath(self):
        ahead = (DUO, TRIO)
        for below, words, row in (("duo", "ADD $0 , LIT 1", None), ("trio", "ONE", None), ("trio", "ADD $0 , $0", 4)):
            text = f"tongue t on {below}\nkind n is x\ntells\nform A n to n\nmeans {words}"
            if row is None:
                self.assertEqual(read_item(ahead, text)[6][0][3][:2], ("use", below))
            else:
                self.bad(text, row, ahead=ahead)
        rows = [
            "ADD $0 $0",
            "ADD , $0 $0",
            "ADD $0 ; $0",
            "ADD $0 ,",
            "SET @0 $0 ; $0",
            "SET @0 ; $0 = $0",
            "ADD $0 , $0 ,",
        ]
        for words in rows:
            self.bad(f"tongue t on duo\ntells\nform A @n n to n\nmeans {words}", 3, ahead=ahead)

    def test_not_let_by_but_read(self):
        cases = {
            "$3": "hole",
            "x": "lost",
            "@0": "lost",
            "@5": "lost",
            ":rest": "rest",
            ":choose 0 0": "many",
            "NUM #4": "lit",
            "NUM ~0": "lit",
            "LET @4 $0 $0": "bind",
            ":times 3 $0 + :rest :rest": "rest",
        }
        for words, word in cases.items():
            item = read_item((LOW,), self.of(words))
            with self.assertRaises(NoTongue) as caught:
                look_tongue((LOW,), item)
            self.assertEqual(caught.exception.word, word)

    def test_the_first_row(self):
        rows = ["form A to n", "means NUM", "form B to", "means NUM 1"]
        self.bad(tongue_text(*rows), 6)
        self.bad(tongue_text(rows[2], rows[1]), 5)
        self.bad("tongue t on ground\nkind n is num\nfault bad\ntells 1\n" + "\n".join(rows), 3)


class PartRowsTest(ReaderTest):
    def rows(self, *rows, tongue="ground"):
        return "\n".join([f"part p in {tongue}", *rows])

    def test_functions(self):
        item = ("part", "p", "duo", (("f", (("x", "n"), ("y", "b")), "n", use("duo", "ADD", X, use("duo", "LIT", 1))),))
        self.reads(self.rows("def f x n y b to n = ADD x , LIT 1", tongue="duo"), item)
        self.reads(self.rows("def f to num = NUM 1"), ("part", "p", "ground", (("f", (), "num", num(1)),)))

    def test_words_of_a_row(self):
        rows = ["def", "def f", "def f to", "def f to num", "def f to num =", "def f to num = ", "def to num = NUM 1"]
        rows += ["def f x to num = x", "def f x num y to num = x", "def f x num num = x", "def f x num to = x"]
        rows += [
            "def f x num to num x",
            "def f x num to num == x",
            "def f x num to num = = x",
            "def f x num on num = x",
        ]
        rows += ["def  f to num = NUM 1", "def f  to num = NUM 1", "def f to num =  NUM 1", "def f to num = NUM 1 "]
        rows += [" def f to num = NUM 1", "Def f to num = NUM 1", "fun f to num = NUM 1", "f to num = NUM 1", ""]
        rows += ["def f = to num = NUM 1", "def = to num = NUM 1", "= def f to num = NUM 1", "kind n is num"]
        for row in rows:
            self.bad(self.rows(row), 1)
            self.bad(self.rows("def e to num = NUM 1", row), 2)

    def test_names(self):
        for text in NO_NAMES:
            self.bad(self.rows(f"def {text} to num = NUM 1"), 1)
            self.bad(self.rows(f"def f {text} num to num = NUM 1"), 1)
            self.bad(self.rows(f"def f x {text} to num = NUM 1"), 1)
            self.bad(self.rows(f"def f to {text} = NUM 1"), 1)
            if text not in ("A", "+", "a.b"):
                self.bad(self.rows(f"def f x num to num = + x {text}"), 1)
            self.bad(self.rows(f"def f x num to num = LET {text} x x"), 1)

    def test_meanings_words_have_no_place(self):
        rows = ["$0", "@0", ":rest", ":choose 0 1 x", ":times 1 x x", "NUM #0", "NUM ~0", "NUM !lib.zero", "LET @0 x x"]
        for words in rows:
            self.bad(self.rows(f"def f x num to num = {words}"), 1)

    def test_figures(self):
        for text in NO_FIGURES:
            self.bad(self.rows(f"def f to num = NUM {text}"), 1)
        self.reads(self.rows("def f to num = NUM 999"), ("part", "p", "ground", (("f", (), "num", num(999)),)))

    def test_calls_of_those_above_too(self):
        f, g = "def f x num to num = x", "def g to num = p.f NUM 1"
        due = (("f", (("x", "num"),), "num", X), ("g", (), "num", call("p.f", num(1))))
        self.reads(self.rows(f, g), ("part", "p", "ground", due))
        self.bad(self.rows(g, f), 1)
        self.bad(self.rows("def f to num = p.f"), 1)
        self.bad(self.rows(f, "def g to num = p.f"), 2)
        self.bad(self.rows(f, "def g to num = p.f NUM 1 NUM 1"), 2)
        self.bad(self.rows(f, "def g to num = p.h"), 2)
        self.bad(self.rows(f, "def g to num = q.f NUM 1"), 2)

    def test_of_two_of_one_name_the_later_one(self):
        rows = ["def f x num to num = x", "def f to num = NUM 1", "def g to num = p.f"]
        item = read_item(TOWER, self.rows(*rows))
        self.assertEqual(item[3][2][3], call("p.f"))
        self.refused(NoPart, {"word": "twice", "function": "f", "at": -1}, look_part, TOWER, item)
        self.bad(self.rows(*rows[:2], "def g to num = p.f NUM 1"), 3)
        self.assertEqual(
            read_item(TOWER, self.rows(*rows[:2], *rows[:1], "def g to num = p.f NUM 1"))[3][3][3][1], "p.f"
        )
        # Also where a part ahead has the name, though then the part isn't let by.
        text = "part lib in ground\ndef one to num = NUM 1\ndef f to num = lib.one"
        self.reads(text, ("part", "lib", "ground", (("one", (), "num", num(1)), ("f", (), "num", call("lib.one")))))
        self.bad("part lib in ground\ndef f to num = lib.one", 1)
        text = "part lib in ground\ndef f to num = lib.one NUM 1"
        self.reads(text, ("part", "lib", "ground", (("f", (), "num", call("lib.one", num(1))),)))

    def test_calls_in_whichever_tongue(self):
        item = read_item(TOWER, self.rows("def f to num = mid.inc NUM 1"))
        self.assertEqual(item[3][0][3], call("mid.inc", num(1)))
        self.refused(NoPart, {"word": "call", "function": "f", "at": 0}, look_part, TOWER, item)
        item = read_item(TOWER, self.rows("def f x b to n = far.off x", tongue="duo"))
        self.assertIs(look_part(TOWER, item), True)
        self.bad(self.rows("def f x b to n = far.off", tongue="duo"), 1)

    def test_heads_of_its_tongue(self):
        self.bad(self.rows("def f to n = ONE", tongue="duo"), 1)
        self.bad(self.rows("def f to n = NUM 1", tongue="duo"), 1)
        self.bad(self.rows("def f to n = LIT 1"), 1)
        self.bad(self.rows("def f x n to n = ADD x x", tongue="duo"), 1)
        self.bad(self.rows("def f x n to n = ADD x ; x", tongue="duo"), 1)
        self.reads(
            self.rows("def f to m = ONE", tongue="trio"), ("part", "p", "trio", (("f", (), "m", use("trio", "ONE")),))
        )

    def test_not_let_by_but_read(self):
        cases = {
            "def f x none to num = x": ("param", 0),
            "def f x num x num to num = x": ("param", 1),
            "def f to none = NUM 1": ("gives", -1),
            "def f to num = x": ("lost", 0),
            "def f to num = LET a NUM 1 b": ("lost", 2),
            "def f x n to n = ADD LESS x < x , x": ("kind", 1),
            "def f x n to n = TWO a x a x x LESS x < x": ("bind", 0),
        }
        for row, (word, at) in cases.items():
            tongue = "duo" if " n to n " in row else "ground"
            item = read_item(TOWER, self.rows(row, tongue=tongue))
            self.refused(NoPart, {"word": word, "function": "f", "at": at}, look_part, TOWER, item)


class FaceRowsTest(ReaderTest):
    def rows(self, *rows):
        return "\n".join(["face p in duo", *rows])

    def test_heads(self):
        self.reads(self.rows("def f to n"), ("face", "p", "duo", (("f", (), "n"),)))
        item = ("face", "p", "duo", (("f", ("n", "b"), "n"), ("g", ("b",), "b")))
        self.reads(self.rows("def f n b to n", "def g b to b"), item)

    def test_words_of_a_row(self):
        rows = [
            "def",
            "def f",
            "def f to",
            "def f n",
            "def to n",
            "def f n n n",
            "def f on n",
            "def f to n ",
            " def f to n",
            "",
        ]
        rows += ["def f to n = LIT 1", "def f  to n", "def f n  to n", "Def f to n", "def f to n to", "def f to n = x"]
        for row in rows:
            self.bad(self.rows(row), 1)
            self.bad(self.rows("def e to n", row), 2)
        for text in NO_NAMES:
            for row in (f"def {text} to n", f"def f {text} to n", f"def f n {text} to n", f"def f to {text}"):
                self.bad(self.rows(row), 1)

    def test_not_let_by_but_read(self):
        for row, word in (("def f x to n", "param"), ("def f to x", "gives"), ("def f to n\ndef f to n", "twice")):
            with self.assertRaises(NoPart) as caught:
                look_part((DUO,), read_item((DUO,), self.rows(row)))
            self.assertEqual(caught.exception.word, word)


WORDS = (
    " x n to = def means form tells fault kind is on in tongue part face ground one p.f q.g low.f zz.z # #0 ~0 !p.f"
    " !low.f !low.g @n @0 $0 $1 $9 $01 :choose :times :rest :x 0 1 007 999 1000 NUM + IF LET A B 'A 'a n:0 n:0,1 n:"
    " n:1,0 n:01 n:a ' @ ABCDEFG abcdefg a.b.c , ; | x:0 \u00e4"
).split(" ")


class ChanceTest(ReaderTest):
    def test_texts_changed_by_chance(self):
        found = {"row": 0, "item": 0, "let by": 0}
        for seed in range(1200, 1216):
            rng = random.Random(seed)
            tower = Chance(rng).good_tower()
            for at, item in enumerate(tower):
                text = item_text(tower[:at], item)
                for _ in range(25):
                    self.check(tower[:at], changed(rng, text.split("\n")), found)
        self.assertGreater(min(found.values()), 100, found)

    def check(self, ahead, text, found):
        item = told(ahead, text)
        self.assertEqual(item, PlainReader(ahead).read(text), text)
        if isinstance(item, int):
            found["row"] += 1
            return
        found["item"] += 1
        try:
            found["let by"] += look_tower((*ahead, item))
        except TowerError:
            return
        self.assertEqual(item_text(ahead, item), text)


def changed(rng, rows):
    """Rows with a row or a word left out, put in, or exchanged."""
    for _ in range(rng.choice([1, 1, 1, 2])):
        rows = rows or [""]
        k = rng.randrange(len(rows))
        way = rng.randrange(8)
        if way == 0:
            del rows[k]
        elif way == 1:
            rows.insert(k, rng.choice(rows))
        elif way == 2:
            j = rng.randrange(len(rows))
            rows[k], rows[j] = rows[j], rows[k]
        else:
            words = rows[k].split(" ")
            j = rng.randrange(len(words))
            words[j : j + (way != 5)] = [] if way < 5 else [rng.choice(WORDS + words)]
            rows[k] = " ".join(words)
    return "\n".join(rows)


class WholeTest(ReaderTest):
    def test_unchanged_and_again(self):
        for _ in range(2):
            self.assertEqual(read_item((DUO,), TRIO_TEXT), TRIO)
            self.assertEqual(told((), TRIO_TEXT), 0)
        self.assertEqual(read_item((), item_text((), LIB)), LIB)


if __name__ == "__main__":
    unittest.main()
