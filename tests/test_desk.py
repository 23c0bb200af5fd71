import random
import unittest

from samples import (
    FORTY, FRACTIONS, HAPS, LONG_PLAIN, OTHER_FORTY, OTHER_SPEEDS, PLAIN_SPEEDS, Case, ended_quick, nested, other_things,
)
from seatclocks.bench import Bench
from seatclocks.desk import Desk
from seatclocks.errors import MotionError, NoDeed, NoName, NoRow, NoSpeed, NotPlain, TooMany
from seatclocks.texts import fraction_text, haps_text

NAMES = ["a", "b", "ab", "abcdefgh", "put", "none", "undo", "order", "z", "clock", "rod", "hap", "far", "near"]
NO_NAMES = ["", "abcdefghi", "A", "aB", "a1", "1", "a\tb", "a\n", "a-b", "a_b", "a=b", "@", "\u00e4", "\u0430", "`", "{", "0@0"]
NO_FRACTIONS = [
    "", "0/1", "1/1", "2/4", "1/0", "1/-2", "-0", "+1", "01", "1/02", "1.5", ".5", "1e3", "a", "1/", "/2", "1/2/3", "--1", "1_0",
    "\u0661", "\u00bd", "1\n", "\t1", "1,2", "(1,2)", "0@0", "None", "0x1", "1 /2".replace(" ", "\u00a0"), "3/-5", "-", "/",
]
NO_HAPS = NO_FRACTIONS[1:25] + [
    "0", "0@", "@0", "@", "0@@0", "0@0@0", "0@0,1@1", "0@2/4", "2/4@0", "0/1@0", "0@0/1", "0 @0".replace(" ", "_"), "a@0", "0@a",
    "01@0", "0@-0", "+0@0", "0@1/0",
]
DEEDS = ["put a 0@0", "put b 1@1", "turn 3/5", "put c 2@-1/2", "push -4/5", "drop b"]
QUESTIONS = ["names", "speed", "order", "tell a", "kind a c", "kind c a"]
NO_ROWS = [
    "", " ", "  ", "put", "put a", "put a 0@0 0@0", "put a 0@0 1@1", "put 0@0", "put 0@0 a", "drop", "drop a b", "drop 0",
    "turn", "turn 3/5 3/5", "turn a", "push", "push 3/5 4/5", "push 0@0", "undo 1", "undo undo", "undo a", "names a",
    "names names", "speed 0", "speed a", "tell", "tell a b", "tell 0@0", "order a", "order 3/5", "kind", "kind a", "kind a b a",
    "kind a 0@0", "kind 0@0 a", " names", "names ", "  names", "names  ", " undo", "undo ", "put  a 0@0", "put a  0@0",
    "put a 0@0 ", " put a 0@0", "put  0@0", "put a ", "turn  3/5", "turn 3/5 ", "turn ", "tell  a", "tell a ", "tell ",
    "kind a  b", "kind  a b", "kind a b ", "kind a ", "kind  a", "Names", "NAMES", "name", "namess", "Undo", "PUT a 0@0", "Put a 0@0",
    "puta 0@0", "put_a 0@0", "put\ta 0@0", "put a\t0@0", "names\n", "\nnames", "names\t", "undo\n", "undo\u00a0", "say", "ok", "none",
    "same", "bench", "exit", "help", "a", "0", "0@0", "3/5", "tell,a", "kind a,b", "put a=0@0", "order=", "_do", "__init__", "NAME",
    "put NAME HAP", "turn V", "x" * 2000, " " * 2000, "a " * 1000, "put a 0@0 " * 200, "names " * 300,
]


def no_rows():
    """Things that are no row, though some are nearly one."""
    return NO_ROWS + [
        ["names"], ("names",), {"names": "names"}, ["put", "a", "0@0"], ("put", "a", ((0, 1), (0, 1))), [["names"]],
        {"undo": None}, ("undo",), ["undo"], nested("list", 60), [],
    ] + other_things()


def desk_of(rows):
    """A desk that was told these rows."""
    desk = Desk()
    for row in rows:
        desk.say(row)
    return desk


def state(desk):
    """All that a desk answers."""
    names = desk.say("names")
    listed = [] if names == "none" and desk.say("order") == "none" else names.split(" ")
    told = [desk.say("tell " + name) for name in listed]
    kinds = [desk.say("kind " + one + " " + other) for one in listed for other in listed]
    return (names, desk.say("speed"), desk.say("order"), told, kinds)


class DeskCase(Case):
    def check_refused_by(self, desk, refusal, row):
        """It is refused, and the desk answers as before."""
        before = state(desk)
        self.check_refused(refusal, desk.say, row)
        self.assertEqual(state(desk), before)

    def check_answers(self, rows):
        """A desk answers each of the rows so."""
        desk = Desk()
        for row, answer in rows:
            told = desk.say(row)
            self.assertEqual((row, told), (row, answer))
            self.assertIs(type(told), str)


class Rows(DeskCase):
    def test_each_row_and_its_answer(self):
        self.check_answers([
            ("names", "none"), ("order", "none"), ("speed", "0"), ("put here 0@0", "ok"), ("names", "here"), ("order", "here"),
            ("put west 0@-1", "ok"), ("put east 0@1", "ok"), ("put late 2@1", "ok"), ("names", "east here late west"),
            ("order", "east=here=west late"), ("speed", "0"), ("tell late", "2@1"), ("kind here late", "later"),
            ("kind late here", "earlier"), ("kind west east", "beside"), ("kind west west", "same"), ("turn -3/5", "ok"),
            ("speed", "-3/5"), ("order", "west here east late"), ("tell late", "13/4@11/4"), ("tell here", "0@0"),
            ("tell west", "-3/4@-5/4"), ("push 3/5", "ok"), ("speed", "0"), ("push 3/5", "ok"), ("push 3/5", "ok"),
            ("speed", "15/17"), ("undo", "ok"), ("speed", "3/5"), ("order", "east here west late"), ("drop here", "ok"),
            ("names", "east late west"), ("undo", "ok"), ("names", "east here late west"), ("put here 5@1/2", "ok"),
            ("turn 0", "ok"), ("tell here", "5@1/2"), ("order", "east=west late here"), ("undo", "ok"), ("undo", "ok"),
            ("tell here", "0@0"), ("speed", "3/5"), ("undo", "ok"), ("undo", "ok"), ("undo", "ok"), ("speed", "0"),
            ("undo", "ok"), ("undo", "ok"), ("undo", "ok"), ("names", "here"), ("undo", "ok"), ("names", "none"),
        ])

    def test_names_like_the_words_of_rows(self):
        words = ["put", "drop", "turn", "push", "undo", "names", "speed", "tell", "order", "kind", "none", "same"]
        self.check_answers(
            [("put " + word + " 0@0", "ok") for word in words]
            + [("names", " ".join(sorted(words))), ("order", "=".join(sorted(words))), ("kind kind order", "same")]
            + [("tell " + word, "0@0") for word in words] + [("drop undo", "ok"), ("undo", "ok"), ("tell undo", "0@0")]
        )

    def test_some_at_one_time_and_some_not(self):
        self.check_answers([
            ("put d 0@0", "ok"), ("put b 1@5", "ok"), ("put a 1@0", "ok"), ("put c 0@9", "ok"), ("put e 7/2@0", "ok"),
            ("order", "c=d a=b e"), ("put e 1@1", "ok"), ("order", "c=d a=b=e"), ("turn 4/5", "ok"), ("order", "c b d e a"),
        ])

    def test_as_a_bench_by_chance(self):
        chosen = random.Random(11)
        desk, bench = Desk(), Bench()
        for _ in range(600):
            name, other = chosen.choice(NAMES), chosen.choice(NAMES)
            hap, speed = chosen.choice(HAPS), chosen.choice(PLAIN_SPEEDS)
            if len(str(bench.speed())) > 1000:
                speed = (0, 1)
                row, deed = "turn 0", (bench.turn, speed)
            else:
                row, deed = chosen.choice([
                    ("put " + name + " " + haps_text([hap]), (bench.put, name, hap)), ("drop " + name, (bench.drop, name)),
                    ("turn " + fraction_text(speed), (bench.turn, speed)), ("push " + fraction_text(speed), (bench.push, speed)),
                    ("undo", (bench.undo,)), ("kind " + name + " " + other, (bench.kind, name, other)),
                    ("put " + name + " " + haps_text([hap]), (bench.put, name, hap)),
                ])
            try:
                expected = deed[0](*deed[1:]) or "ok"
            except MotionError as refusal:
                self.check_refused(type(refusal), desk.say, row)
                continue
            self.assertEqual(desk.say(row), expected)
            self.assertEqual(desk.say("names"), " ".join(bench.names()) or "none")
            self.assertEqual(desk.say("speed"), fraction_text(bench.speed()))
            self.assertEqual(desk.say("order"), " ".join("=".join(names) for names in bench.order()) or "none")
            for there in bench.names():
                self.assertEqual(desk.say("tell " + there), haps_text([bench.tell(there)]))

    def test_two_desks_have_nothing_in_common(self):
        one, other = desk_of(DEEDS), Desk()
        self.assertEqual(state(other), ("none", "0", "none", [], []))
        self.check_refused_by(other, NoDeed, "undo")
        before = state(one)
        other.say("put a 5@5")
        other.say("turn 4/5")
        self.assertEqual(state(one), before)
        one.say("undo")
        self.assertEqual(state(other)[:3], ("a", "4/5", "a"))

    def test_numbers_of_forty_figures(self):
        for hap in HAPS:
            self.check_answers([("put a " + haps_text([hap]), "ok"), ("tell a", haps_text([hap])), ("order", "a")])
        for speed in PLAIN_SPEEDS:
            self.check_answers([("turn " + fraction_text(speed), "ok"), ("speed", fraction_text(speed))])
        self.check_answers([
            ("put a " + str(FORTY) + "@-1/" + str(OTHER_FORTY), "ok"), ("tell a", str(FORTY) + "@-1/" + str(OTHER_FORTY)),
        ])


class Refusals(DeskCase):
    def test_rows_that_are_none(self):
        for desk in [desk_of(DEEDS), desk_of(DEEDS[:2])]:
            before = state(desk)
            for thing in no_rows():
                self.check_refused(NoRow, desk.say, thing)
            self.assertEqual(state(desk), before)
        empty = Desk()
        for thing in no_rows():
            self.check_refused(NoRow, empty.say, thing)
        self.assertEqual(state(empty), state(Desk()))

    def test_names_that_are_none(self):
        desk = desk_of(DEEDS)
        for word in NO_NAMES:
            for row in ["put " + word + " 0@0", "drop " + word, "tell " + word, "kind " + word + " a", "kind a " + word]:
                self.check_refused(NoRow, desk.say, row)
        self.assertEqual(state(desk), state(desk_of(DEEDS)))

    def test_haps_that_are_none(self):
        desk = desk_of(DEEDS)
        for word in NO_HAPS:
            self.check_refused(NoRow, desk.say, "put a " + word)
            self.check_refused(NoRow, desk.say, "put new " + word)
        self.assertEqual(state(desk), state(desk_of(DEEDS)))

    def test_fractions_that_are_none(self):
        desk = desk_of(DEEDS)
        for word in NO_FRACTIONS:
            self.check_refused(NoRow, desk.say, "turn " + word)
            self.check_refused(NoRow, desk.say, "push " + word)
        self.assertEqual(state(desk), state(desk_of(DEEDS)))

    def test_refusals_of_the_stages(self):
        for word in ["turn ", "push "]:
            desk = desk_of(DEEDS)
            for speed in OTHER_SPEEDS:
                self.check_refused_by(desk, NotPlain, word + fraction_text(speed))
            for other in FRACTIONS:
                if abs(other[0]) >= other[1]:
                    self.check_refused_by(desk, NoSpeed, word + fraction_text(other))
        for desk in [desk_of(DEEDS), Desk()]:
            for row in ["drop b", "tell b", "drop names", "tell abcdefgh", "kind b a", "kind a b", "kind x y", "kind b b"]:
                self.check_refused_by(desk, NoName, row)
        desk = Desk()
        self.check_refused_by(desk, NoDeed, "undo")
        for at, name in enumerate(NAMES[:12]):
            desk.say("put " + name + " " + str(at) + "@0")
        self.check_refused_by(desk, TooMany, "put far 0@0")
        self.assertEqual(desk.say("put hap 0@0"), "ok")
        self.assertEqual(desk.say("drop hap"), "ok")
        self.assertEqual(desk.say("put far 0@0"), "ok")
        self.check_refused_by(desk, TooMany, "put hap 0@0")

    def test_no_row_ahead_of_the_refusals_of_the_stages(self):
        desk = Desk()
        for row in ["undo 1", "drop B", "kind nothere B", "kind B nothere", "tell nothere 1", "turn 2/1", "put A 0@0"]:
            self.check_refused_by(desk, NoRow, row)

    def test_what_is_refused_is_not_undone(self):
        desk = desk_of(DEEDS[:3])
        for row in ["", "put a 0@0 ", "put A 0@0", "turn 1", "turn 1/2", "push 1/2", "drop x", "tell x", "kind a x", "names a"]:
            with self.assertRaises(MotionError):
                desk.say(row)
        for many in [2, 1, 0]:
            self.assertEqual(desk.say("undo"), "ok")
            self.assertEqual(state(desk), state(desk_of(DEEDS[:many])))
        self.check_refused_by(desk, NoDeed, "undo")

    def test_asking_is_no_deed(self):
        desk = desk_of(DEEDS)
        for row in QUESTIONS * 2:
            self.assertEqual(desk.say(row), desk.say(row))
        for many in range(len(DEEDS) - 1, -1, -1):
            desk.say("undo")
            self.assertEqual(state(desk), state(desk_of(DEEDS[:many])))

    def test_quick_with_hundreds_of_rows(self):
        program = """
import sys
sys.path.insert(0, {path!r})
from samples import HAPS, LONG_PLAIN
from test_desk import NAMES
from seatclocks.desk import Desk
from seatclocks.texts import fraction_text, haps_text
desk = Desk()
for at, name in enumerate(NAMES[:12]):
    desk.say("put " + name + " " + haps_text([HAPS[at % len(HAPS)]]))
for at in range(300):
    desk.say("push " + fraction_text(LONG_PLAIN[at % 6][0]))
    if at < 30:
        desk.say("order")
        desk.say("speed")
for at in range(312):
    desk.say("undo")
print(desk.say("names"), desk.say("speed"))
""".format(path=__file__.rpartition("/")[0])
        self.assertEqual(ended_quick(program), "none 0\n")

    def test_long_rows_are_quick(self):
        desk = Desk()
        figures = "9" * 950
        self.assertEqual(desk.say("put a " + figures + "@-1/" + figures), "ok")
        self.assertEqual(desk.say("tell a"), figures + "@-1/" + figures)
        self.check_refused(NoSpeed, desk.say, "turn " + "9" * 1990)
        self.check_refused(NotPlain, desk.say, "push 1/" + "9" * 1990)
        self.check_refused(NoRow, desk.say, "push 0" + "9" * 1990)
        speed = LONG_PLAIN[0][0]
        self.assertEqual(desk.say("turn " + fraction_text(speed)), "ok")


if __name__ == "__main__":
    unittest.main()
