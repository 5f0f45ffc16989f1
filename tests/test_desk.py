import random
import unittest

from tests.chance import Chance
from tests.refusals import RefusalTest
from tests.samples import DUO, FAR, LIB, MID, TOWER
from tonguetower.coming import next_words
from tonguetower.desk import Desk
from tonguetower.errors import BadText, NoBody, NoFunction, NoItem, NoPart, NoRow, NoText, NoTongue, NotMade
from tonguetower.errors import TooBig, TooLong, TowerError, Unmade
from tonguetower.itemtexts import item_text
from tonguetower.maker import Maker
from tonguetower.runs import MOST
from tonguetower.towers import ahead_of, face_of


def put_row(ahead, item):
    """The row that puts an item."""
    return "put " + item_text(ahead, item).replace("\n", " | ")


def put_rows(tower):
    return [put_row(tower[:at], item) for at, item in enumerate(tower)]


class DeskTest(RefusalTest):
    def filled(self, tower=TOWER, **more):
        """A desk that was told to put the items of a tower."""
        desk = Desk(**more)
        for row, item in zip(put_rows(tower), tower):
            self.assertEqual(desk.say(row), f"kept {item[1]}")
        return desk

    def none(self, desk, *rows):
        for row in rows:
            self.refused(NoRow, {}, desk.say, row)
        self.assertTrue(issubclass(NoRow, TowerError))

    def shown(self, desk, names):
        """All items that a desk has, as it shows them."""
        return [desk.say(f"show {called}") for called in names]


class RowTest(DeskTest):
    def test_none_of_these(self):
        rows = ["", " ", "  ", "say", "Put", "PUT part p in ground", "puts", " make", "maker", "make none", "|", "\n"]
        rows += ["log", "several", "tower", "made", "len", "put\n", "x y", "kept lib", "undo", "help", "NUM 1", "none"]
        self.none(self.filled(), *rows)

    def test_a_line_feed(self):
        desk = self.filled()
        rows = ["make\n", "\nmake", "show lib\n", "run lib.zero\n", "drop\nlib", "next lib.zero NUM\n1", "ma\nke"]
        self.none(
            desk, *rows, "put part p in ground\n", "put part p in ground\ndef f to num = NUM 1", "put \n", "put\n"
        )
        self.assertEqual(desk.say("drop lib"), "dropped lib")

    def test_blanks(self):
        desk = self.filled()
        rows = ["make ", "make  ", "drop  lib", "drop lib ", " drop lib", "show lib ", "show  lib", "run  lib.zero"]
        rows += [
            "run lib.zero ",
            "run lib.one  1",
            "next  lib.zero",
            " next lib.zero",
            "drop ",
            "show ",
            "run ",
            "next ",
        ]
        self.none(desk, *rows)

    def test_by_name(self):
        self.assertEqual(Desk(most=5).say(row="make"), "none")
        with self.assertRaises(TypeError):
            Desk(5)
        self.assertIn("say", vars(Desk))


class PutTest(DeskTest):
    def test_kept(self):
        desk = self.filled()
        self.assertEqual(
            self.shown(desk, ["lib", "far"]), [row[4:] for row in put_rows((LIB,)) + [put_row((DUO,), FAR)]]
        )

    def test_in_its_place(self):
        desk = self.filled()
        other = (*LIB[:3], LIB[3][::-1])
        self.assertEqual(desk.say(put_row((), other)), "kept lib")
        self.assertEqual(desk.say("show lib"), put_row((), other)[4:])
        self.assertEqual(desk.say("put face mid in duo | def inc n to n"), "kept mid")
        self.assertEqual(desk.say("show mid"), "face mid in duo | def inc n to n")

    def test_read_behind_the_items_ahead_of_its_place(self):
        desk = self.filled()
        # trio stands behind duo; what is new stands last, behind mid and far.
        self.refused(BadText, {"row": 0}, desk.say, "put tongue duo on trio | tells")
        self.refused(BadText, {"row": 1}, desk.say, "put part lib in ground | def f to num = far.all")
        self.assertEqual(desk.say("put part new in duo | def f x b to n = far.off x"), "kept new")
        self.refused(BadText, {"row": 1}, desk.say, "put part mid in duo | def inc x n to n = far.off x")
        self.refused(BadText, {"row": 1}, desk.say, "put part mid in duo | def inc x n to n = new.f x")
        # Its own functions, as they stood, aren't ahead of it.
        self.refused(BadText, {"row": 1}, desk.say, "put part mid in duo | def inc x n to n = mid.inc x")
        self.refused(BadText, {"row": 0}, desk.say, "put part new in new")

    def test_without_a_word(self):
        desk = self.filled()
        self.none(desk, "put", "put\n")
        for row in ("put ", "put  ", "put x", "put  part p in ground", "put part p", "put |", "put  | "):
            self.refused(BadText, {"row": 0}, desk.say, row)

    def test_empty_words(self):
        desk = self.filled()
        rows = ["put part p in ground ", "put part p  in ground", "put part p in ground | "]
        for row, at in zip(rows, (0, 0, 1)):
            self.refused(BadText, {"row": at}, desk.say, row)
        for row in ("put part p in ground |", "put part p in ground| ", "put part p in ground|def f to num = NUM 1"):
            self.refused(BadText, {"row": 0}, desk.say, row)
        text = "put part p in ground |  | def f to num = NUM 1"
        self.refused(BadText, {"row": 1}, desk.say, text)
        self.refused(BadText, {"row": 1}, desk.say, "put part p in ground | def f to num = NUM  1")
        self.assertEqual(desk.say("put part p in ground | def f to num = NUM 1"), "kept p")

    def test_tells_of_none(self):
        desk = Desk()
        self.assertEqual(desk.say("put tongue t on ground | fault a | tells a a"), "kept t")
        self.assertEqual(desk.say("show t"), "tongue t on ground | fault a | tells a a")
        self.refused(NoTongue, {"word": "tells", "head": "", "at": 0}, desk.say, "put tongue t on ground | tells")
        self.refused(BadText, {"row": 1}, desk.say, "put tongue t on ground | tells ")

    def test_a_text_that_is_not_let_by(self):
        desk = self.filled((DUO, LIB, MID))
        fields = {"word": "lost", "function": "f", "at": 0}
        self.refused(NoPart, fields, desk.say, "put part p in ground | def f to num = x")
        self.refused(NoPart, {"word": "tongue", "function": "", "at": -1}, desk.say, "put part duo in ground")
        self.refused(NoPart, {"word": "name", "function": "", "at": -1}, desk.say, "put part ground in ground")
        row = "put tongue duo on ground | kind n is num | fault a | tells a a"
        self.refused(NoPart, {"word": "form", "function": "inc", "at": 0}, desk.say, row)
        self.assertEqual(desk.say("show duo"), put_row((), DUO)[4:])

    def test_names_that_no_item_can_have(self):
        desk = self.filled()
        for called in ("A", "abcdefg", "a.b", "", "1", "|"):
            self.refused(BadText, {"row": 0}, desk.say, f"put part {called} in ground")


class DropShowTest(DeskTest):
    def test_dropped_and_shown(self):
        desk = self.filled()
        for at, item in enumerate(TOWER):
            self.assertEqual("put " + desk.say(f"show {item[1]}"), put_row(TOWER[:at], item))
        self.assertEqual(desk.say("drop lib"), "dropped lib")
        for word in ("drop", "show"):
            self.refused(NoItem, {"name": "lib"}, desk.say, f"{word} lib")
            self.refused(NoItem, {"name": "ground"}, desk.say, f"{word} ground")
            self.refused(NoItem, {"name": "zz"}, desk.say, f"{word} zz")

    def test_names(self):
        desk = self.filled()
        for word in ("drop", "show"):
            rows = ["", " A", " abcdefg", " lib.one", " 1", " lib mid", " lib lib", " LIB", " \u00e4", " +", " lib|"]
            self.none(desk, *[f"{word}{rest}" for rest in rows])

    def test_one_that_others_need(self):
        desk = self.filled()
        self.refused(NoTongue, {"word": "below", "head": "", "at": -1}, desk.say, "drop duo")
        self.refused(NoTongue, {"word": "below", "head": "", "at": -1}, desk.say, "drop trio")
        self.assertEqual(desk.say("drop quad"), "dropped quad")
        self.assertEqual(desk.say("drop trio"), "dropped trio")
        self.refused(NoPart, {"word": "tongue", "function": "", "at": -1}, desk.say, "drop duo")

    def test_what_is_shown_can_be_put(self):
        desk = self.filled()
        rows = [f"put {desk.say(f'show {item[1]}')}" for item in TOWER]
        other = Desk()
        for row, item in zip(rows, TOWER):
            self.assertEqual(other.say(row), f"kept {item[1]}")


BAD = "form BAD # to n | means :times #0 NUM 0 NUM 1"
ROWS = [
    "put part low in ground | def div x num to num = / NUM 10 x | def want x num y num to num = NEED x y",
    f"put tongue t on ground | kind n is num | fault bad | fault sad | tells sad bad | {BAD}"
    " | form TW n to n | means + $0 $0 | form DIV n to n | means low.div $0 | form N # to n | means NUM #0",
    "put part p in t | def f x n to n = TW x | def g x n to n = TW DIV x",
    "put face far in t | def f n to n",
    "put part q in t | def f x n to n = p.f p.f x | def g x n to n = far.f x",
]


class RunTest(DeskTest):
    def desk(self, **more):
        desk = Desk(**more)
        for row in ROWS:
            desk.say(row)
        return desk

    def test_make(self):
        desk = self.desk()
        self.assertEqual(desk.say("make"), "low p q")
        self.assertEqual(desk.say("make"), "none")
        self.assertEqual(Desk().say("make"), "none")
        desk.say("put part p in t | def f x n to n = TW TW x")
        self.assertEqual(desk.say("make"), "p q")
        desk.say("put part p in t | def f x n to n = x")
        self.assertEqual(desk.say("make"), "p")

    def test_numbers_and_faults(self):
        desk = self.desk()
        desk.say("make")
        self.assertEqual(desk.say("run p.f 3"), "6 in 1")
        self.assertEqual(desk.say("run q.f 300"), "200 in 4")
        self.assertEqual(desk.say("run p.g 0"), "sad at p.g 1 in 4")
        self.assertEqual(desk.say("run low.div 0"), "nought at low.div 0 in 2")
        self.assertEqual(desk.say("run low.want 0 5"), "need at low.want 0 in 1")
        self.assertEqual(desk.say("run low.want 999 5"), "5 in 1")

    def test_names_and_numbers(self):
        desk = self.desk()
        desk.say("make")
        rows = [
            "run",
            "run p",
            "run P.F 1",
            "run p.f.g 1",
            "run f 1",
            "run .f 1",
            "run p. 1",
            "run p.abcdefg 1",
            "run 1",
        ]
        rows += ["run p.f 01", "run p.f 1000", "run p.f -1", "run p.f x", "run p.f 1.", "run p.f \u0663", "run p.f 1,2"]
        self.none(desk, *rows)

    def test_counts_by_the_tower(self):
        desk = self.desk()
        for _ in range(2):
            self.none(desk, "run p.f", "run p.f 1 2", "run low.want 1", "run low.want 1 2 3", "run low.want")
            self.none(desk, "run far.f", "run far.f 1 2")
            desk.say("make")

    def test_counts_by_what_was_made(self):
        desk = self.desk()
        desk.say("make")
        desk.say("drop q")
        self.none(desk, "run q.f", "run q.f 1 2")
        self.refused(NoFunction, {"f": "q.f"}, desk.say, "run q.f 1")
        desk.say("put part p in t | def f x n y n to n = x | def h to n = N 1")
        # Of one param as it was made, of two in the tower.
        self.none(desk, "run p.f", "run p.f 1", "run p.f 1 2", "run p.f 1 2 3", "run p.g", "run p.g 1 2", "run p.h 1")
        self.refused(NoFunction, {"f": "p.g"}, desk.say, "run p.g 1")
        self.refused(NotMade, {"f": "p.h"}, desk.say, "run p.h")
        self.assertEqual(desk.say("make"), "p")
        self.none(desk, "run p.f 1")
        self.assertEqual(desk.say("run p.f 1 2"), "1 in 0")
        # Neither in the tower nor made: any count of numbers.
        for row in ("run p.g", "run p.g 1", "run p.g 1 2 3 4 5"):
            self.refused(NoFunction, {"f": "p.g"}, desk.say, row)

    def test_counts_of_a_face_in_the_place(self):
        desk = self.desk()
        desk.say("make")
        desk.say("drop q")
        desk.say("put face p in t | def f to n")
        self.none(desk, "run p.f", "run p.f 1", "run p.g")
        self.refused(NoFunction, {"f": "p.g"}, desk.say, "run p.g 1")
        desk.say("make")
        self.refused(NoBody, {"f": "p.f"}, desk.say, "run p.f")
        self.none(desk, "run p.f 1")

    def test_no_function_no_body(self):
        desk = self.desk()
        for f in ("none.f", "p.z", "t.n", "ground.f", "far.g"):
            self.refused(NoFunction, {"f": f}, desk.say, f"run {f} 1")
            self.refused(NoFunction, {"f": f}, desk.say, f"next {f} TW")
        self.refused(NoBody, {"f": "far.f"}, desk.say, "run far.f 1")
        self.refused(NoBody, {"f": "far.f"}, desk.say, "next far.f none")
        self.assertTrue(issubclass(NoFunction, KeyError))

    def test_not_made(self):
        desk = self.desk()
        self.refused(NotMade, {"f": "p.f"}, desk.say, "run p.f 1")
        desk.say("make")
        self.refused(NotMade, {"f": "far.f"}, desk.say, "run q.g 1")
        desk.say("put part new in t | def f to n = N 1")
        self.refused(NotMade, {"f": "new.f"}, desk.say, "run new.f")

    def test_what_was_last_made(self):
        desk = self.desk()
        desk.say("make")
        desk.say("put part p in t | def f x n to n = TW TW x")
        self.assertEqual(desk.say("run p.f 3"), "6 in 1")
        desk.say(
            "put tongue t on ground | kind n is num | fault no | tells no no | form TW n to n | means $0 | form N #"
            " to n | means NUM #0 | form DIV n to n | means low.div $0"
        )
        self.assertEqual(desk.say("run p.f 3"), "6 in 1")
        self.assertEqual(desk.say("run q.f 300"), "200 in 4")
        desk.say("make")
        self.assertEqual(desk.say("run p.f 3"), "3 in 0")

    def test_refused_makes(self):
        desk = self.desk()
        desk.say("make")
        desk.say("put part q in t | def f x n to n = TW BAD 10")
        self.refused(Unmade, {"f": "q.f", "at": 1, "why": ("many",)}, desk.say, "make")
        self.assertEqual(desk.say("run q.f 300"), "200 in 4")
        self.refused(Unmade, {"f": "q.f", "at": 1, "why": ("many",)}, desk.say, "make")
        desk.say("put part q in t | def f x n to n = x")
        self.assertEqual(desk.say("make"), "q")

    def test_most(self):
        desk = self.desk(most=6)
        self.assertEqual(desk.say("make"), "low p q")
        desk.say("put part q in t | def f x n to n = TW TW x")
        self.refused(TooBig, {"most": 6}, desk.say, "make")
        self.assertEqual(self.desk(most=7).say("make"), "low p q")
        row = " ".join(["TW"] * 11)
        desk = self.desk()
        desk.say(f"put part q in t | def f x n to n = {row} x")
        self.refused(TooBig, {"most": 3000}, desk.say, "make")

    def test_too_long(self):
        self.assertEqual(MOST, 20000)
        desk = Desk()
        desk.say("put part p in ground | def f x num to num = LOOP NUM 999 a NUM 1 LOOP x b NUM 1 + b NUM 1")
        desk.say("make")
        self.assertEqual(desk.say("run p.f 9"), f"{(1 + 9) % 1000} in {3 + 999 * 20}")
        self.refused(TooLong, {"most": 20000}, desk.say, "run p.f 10")


class NextTest(DeskTest):
    def test_what_may_come(self):
        desk = self.filled()
        self.assertEqual(desk.say("next mid.inc"), "ADD LIT MARK SET TWO x")
        self.assertEqual(desk.say("next mid.inc LIT"), "#")
        self.assertEqual(desk.say("next mid.inc SET"), "@")
        self.assertEqual(desk.say("next mid.inc SET a"), "=")
        self.assertEqual(desk.say("next mid.inc ADD x , LIT"), "#")
        self.assertEqual(desk.say("next mid.is"), "LESS y")
        self.assertEqual(desk.say("next mid.is LESS"), "ADD LIT MARK SET TWO mid.inc x")
        self.assertEqual(desk.say("next lib.zero"), "* + - / < = IF LET LOOP NEED NUM")

    def test_whole(self):
        desk = self.filled()
        for row in ("next mid.inc x", "next mid.inc ADD x , LIT 1", "next mid.is y", "next lib.zero NUM 0"):
            self.assertEqual(desk.say(row), "whole")
        for item in (LIB, MID):
            for one in item[3]:
                words = item_text((DUO,), (*item[:3], (one,))).split(" = ", 1)[1]
                row = words.split(" ")
                for many in range(len(row)):
                    f = f"{item[1]}.{one[0]}"
                    told = desk.say(" ".join(["next", f, *row[:many]]))
                    due = next_words(ahead_of(TOWER, f), item[2], one[1], one[2], tuple(row[:many]))
                    self.assertEqual(told, " ".join(due))

    def test_empty_words(self):
        desk = self.filled()
        wants = ("ADD", "LIT", "MARK", "SET", "TWO", "x")
        self.refused(NoText, {"at": 0, "wants": wants}, desk.say, "next mid.inc ")
        self.refused(NoText, {"at": 0, "wants": wants}, desk.say, "next mid.inc  x")
        self.refused(NoText, {"at": 1, "wants": ()}, desk.say, "next mid.inc x ")
        self.refused(NoText, {"at": 1, "wants": ("#",)}, desk.say, "next mid.inc LIT ")
        self.refused(NoText, {"at": 1, "wants": ("@",)}, desk.say, "next mid.inc SET  = x")

    def test_refused(self):
        desk = self.filled()
        self.refused(NoText, {"at": 1, "wants": ("#",)}, desk.say, "next mid.inc LIT x")
        self.refused(NoText, {"at": 1, "wants": ()}, desk.say, "next mid.inc x x")
        wants = ("ADD", "LIT", "MARK", "SET", "TWO", "x")
        self.refused(NoText, {"at": 0, "wants": wants}, desk.say, "next mid.inc mid.inc")
        self.none(desk, "next", "next mid", "next MID.inc", "next mid.inc.x", "next mid.", "next abcdefg.f x")

    def test_by_the_tower_that_stands(self):
        desk = self.filled()
        desk.say("make")
        desk.say("put part mid in duo | def is y b to b = y | def inc z n to n = z")
        self.assertEqual(desk.say("next mid.inc"), "ADD LIT MARK SET TWO z")
        self.assertEqual(desk.say("next mid.is"), "LESS y")


class OrderTest(DeskTest):
    def test_two_are_due(self):
        desk = self.filled()
        self.none(desk, "drop zz zz", "show A", "run none.f x", "run far.off", "next far none", "run none.f 01")
        # Of a function that isn't there none of the words behind it is read.
        self.refused(NoFunction, {"f": "none.f"}, desk.say, "next none.f  NUM")
        self.refused(NoBody, {"f": "far.off"}, desk.say, "next far.off ")
        # Neither in the tower nor made, so not made, too.
        self.refused(NoFunction, {"f": "none.f"}, desk.say, "run none.f 1 2")
        self.refused(NoBody, {"f": "far.off"}, desk.say, "run far.off 1")
        # A text that can't be read, of an item that wouldn't be let by.
        self.refused(BadText, {"row": 2}, desk.say, "put part duo in ground | def f to n = x | def")
        text = "put part lib in ground | def f to num = NUM 1 | def f to num = NUM"
        self.refused(BadText, {"row": 2}, desk.say, text)

    def test_not_made_or_too_long(self):
        desk = Desk()
        desk.say("put face far in ground | def f num to num")
        long = "LOOP NUM 999 a NUM 1 LOOP NUM 10 b NUM 1 + b NUM 1"
        desk.say(f"put part p in ground | def f to num = {long} | def g to num = IF p.f far.f NUM 1 NUM 1")
        desk.say("make")
        self.refused(NotMade, {"f": "far.f"}, desk.say, "run p.g")
        self.refused(TooLong, {"most": 20000}, desk.say, "run p.f")

    def test_what_is_refused_changes_nothing(self):
        desk = self.filled()
        desk.say("make")
        names = [item[1] for item in TOWER]
        rows = [
            "put",
            "put part lib in none",
            "put part lib in ground | def f to num = x",
            "drop duo",
            "drop zz",
            "show zz",
        ]
        rows += ["run lib.one", "run far.off 1", "next far.off", "next mid.inc zz", "make it", "put part duo in ground"]
        before = self.shown(desk, names)
        for row in rows:
            with self.assertRaises((TowerError, LookupError)):
                desk.say(row)
            self.assertEqual(self.shown(desk, names), before)
            self.assertEqual(desk.say("make"), "none")
            self.assertEqual(desk.say("run lib.two 3 4"), "7 in 1")

    def test_two_desks_side_by_side(self):
        one, other = self.filled(), self.filled((DUO, MID))
        one.say("make")
        self.refused(NoItem, {"name": "lib"}, other.say, "show lib")
        self.refused(NotMade, {"f": "mid.inc"}, other.say, "run mid.inc 3")
        other.say("put part mid in duo | def inc x n to n = x")
        other.say("make")
        self.assertEqual(one.say("run mid.inc 3"), "4 in 2")
        self.assertEqual(other.say("run mid.inc 3"), "3 in 0")
        self.assertEqual(one.say("show mid"), put_row((DUO,), MID)[4:])

    def test_asked_again(self):
        desk = self.filled()
        desk.say("make")
        rows = ["show duo", "run mid.inc 5", "next mid.inc ADD", "show lib", "make"]
        first = [desk.say(row) for row in rows]
        self.assertEqual([desk.say(row) for row in reversed(rows)], first[::-1])


class ChanceTest(DeskTest):
    """A desk tells what a maker does that is called alike."""

    def test_by_chance(self):
        told = {"kept": 0, "made": 0, "refused": 0, "ran": 0}
        for seed in range(1300, 1320):
            rng = random.Random(seed)
            tower = Chance(rng, makes=seed % 4 == 0).good_tower()
            items = [item for item in tower]
            items += [(*item[:3], item[3][:1]) for item in tower if item[0] == "part"]
            items += [face_of(item) for item in tower if item[0] == "part"]
            self.check(rng, items, (self.filled(tower), filled_maker(tower)), told)
        self.assertGreater(min(told.values()), 30, told)

    def check(self, rng, items, both, told):
        desk, maker = both
        for _ in range(15):
            word = rng.choice(["put", "make", "run", "run", "drop"])
            item = rng.choice(items)
            if word == "put":
                names = [one[1] for one in maker.tower()]
                at = names.index(item[1]) if item[1] in names else len(names)
                try:
                    row = put_row(maker.tower()[:at], item)
                except (LookupError, ValueError):
                    continue
                due = outcome(lambda: maker.put(item) or f"kept {item[1]}")
                found = outcome(lambda: desk.say(row))
                if found[0] != "BadText":
                    self.assertEqual(found, due)
                told["kept" if due[0] == "told" else "refused"] += 1
            elif word == "drop":
                due = outcome(lambda: maker.drop(item[1]) or f"dropped {item[1]}")
                self.assertEqual(outcome(lambda: desk.say(f"drop {item[1]}")), due)
            elif word == "make":
                due = outcome(lambda: " ".join(maker.make()) or "none")
                self.assertEqual(outcome(lambda: desk.say("make")), due)
                told["made" if due[0] == "told" else "refused"] += 1
            else:
                self.check_run(rng, both, told)

    def check_run(self, rng, both, told):
        desk, maker = both
        functions = [(one[1], head) for one in maker.tower() if one[0] == "part" for head in one[3]]
        if not functions:
            return
        called, (f, params, _, _) = rng.choice(functions)
        numbers = [rng.choice([0, 1, 7, 999]) for _ in params]
        due = outcome(lambda: ran_text(maker.run(f"{called}.{f}", numbers)))
        words = ["run", f"{called}.{f}", *[str(number) for number in numbers]]
        found = outcome(lambda: desk.say(" ".join(words)))
        if found[0] != "NoRow":
            self.assertEqual(found, due)
        told["ran"] += due[0] == "told"


def filled_maker(tower):
    maker = Maker()
    maker.several(tower)
    return maker


def ran_text(told):
    return f"{told[1]} in {told[2]}" if told[0] == "told" else f"{told[1]} at {told[2]} {told[3]} in {told[4]}"


def outcome(tell):
    """What is told, or what is refused, as a row."""
    try:
        return ("told", tell())
    except (TowerError, LookupError) as error:
        return (type(error).__name__, vars(error))


if __name__ == "__main__":
    unittest.main()
