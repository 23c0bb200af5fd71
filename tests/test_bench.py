import copy
import random
import unittest

from samples import (
    FORTY, HAPS, LONG_PLAIN, OTHER_SPEEDS, PLAIN_SPEEDS, Case, ended_quick, kind_by_standard, no_haps, no_speeds,
    other_things, standard,
)
from seatclocks.bench import Bench
from seatclocks.errors import NoDeed, NoHap, NoName, NoSpeed, NotPlain, TooMany
from seatclocks.seats import told_from
from seatclocks.speeds import together

NAMES = ["a", "z", "abc", "b", "ab", "abcdefgh", "zzzzzzzz", "seat", "clock", "rod", "hap", "flash", "far", "near"]
NO_NAMES = [
    "", "abcdefghi", "a" * 2000, "A", "aB", "a1", "1", "a b", " a", "a ", "a\n", "\n", "a-b", "a_b", "a=b", "@", "\u00e4",
    "a\u00e9", "\u00df", "\u0430", "\uff41", "\u00aa", "a\u0301", "\u0131", "{", "`", "a\0", "none ", 0, 1, True, False, None,
    ("a",), ["a"], {"a": 1}, (), [], {}, ("a", "b"),
]


def no_names():
    """Things that are no name, though some are nearly one."""
    return NO_NAMES + [thing for thing in other_things() if thing != "ab"]


def filled(names):
    """A bench with haps by these names, in their turn."""
    bench = Bench()
    for at, name in enumerate(names):
        bench.put(name, HAPS[at % len(HAPS)])
    return bench


def state(bench):
    """All that a bench tells."""
    names = bench.names()
    kinds = [bench.kind(one, other) for one in names for other in names]
    return (names, bench.speed(), [bench.tell(name) for name in names], bench.order(), kinds)


class Model:
    """What a bench is to tell, by its deeds from the first one on."""

    def __init__(self):
        self.deeds = []

    def told(self):
        """The haps by their names, and the speed."""
        haps, speed = {}, (0, 1)
        for deed, *handed in self.deeds:
            if deed == "put":
                haps[handed[0]] = handed[1]
            elif deed == "drop":
                del haps[handed[0]]
            elif deed == "turn":
                speed = handed[0]
            else:
                speed = together(speed, handed[0])
        return haps, speed


class BenchCase(Case):
    def check_bench(self, bench, haps, speed):
        """The bench tells just these haps from a seat of this speed, as they would be told if they were put anew."""
        self.assertEqual(bench.names(), sorted(haps))
        self.check_fraction(bench.speed(), speed)
        seat = (speed, ((0, 1), (0, 1)))
        told = {name: told_from(seat, hap) for name, hap in haps.items()}
        for name in haps:
            self.check_hap(bench.tell(name), told[name])
            for other in haps:
                self.assertEqual(bench.kind(name, other), kind_by_standard(haps[name], haps[other]))
        stand = {name: standard(hap[0]) for name, hap in told.items()}
        order = [sorted(name for name in stand if stand[name] == time) for time in sorted(set(stand.values()))]
        self.assertEqual(bench.order(), order)
        self.assertEqual([type(names) for names in bench.order()], [list] * len(order))

    def check_refused_by(self, bench, refusal, call, *handed):
        """It is refused, and the bench tells what it told."""
        before = state(bench)
        self.check_refused(refusal, call, *handed)
        self.assertEqual(state(bench), before)


class Deeds(BenchCase):
    def test_a_new_bench(self):
        bench = Bench()
        self.assertEqual(state(bench), ([], (0, 1), [], [], []))
        self.check_refused_by(bench, NoDeed, bench.undo)

    def test_each_deed_and_its_undoing(self):
        bench = Bench()
        haps = {"a": HAPS[4], "b": HAPS[5]}
        self.assertIs(bench.put("a", HAPS[4]), None)
        self.check_bench(bench, {"a": HAPS[4]}, (0, 1))
        self.assertIs(bench.put("b", HAPS[5]), None)
        self.check_bench(bench, haps, (0, 1))
        self.assertIs(bench.turn((3, 5)), None)
        self.check_bench(bench, haps, (3, 5))
        self.assertIs(bench.push((3, 5)), None)
        self.check_bench(bench, haps, (15, 17))
        self.assertIs(bench.put("a", HAPS[3]), None)
        self.check_bench(bench, {"a": HAPS[3], "b": HAPS[5]}, (15, 17))
        self.assertIs(bench.drop("b"), None)
        self.check_bench(bench, {"a": HAPS[3]}, (15, 17))
        self.assertIs(bench.undo(), None)
        self.check_bench(bench, {"a": HAPS[3], "b": HAPS[5]}, (15, 17))
        bench.undo()
        self.check_bench(bench, haps, (15, 17))
        bench.undo()
        self.check_bench(bench, haps, (3, 5))
        bench.undo()
        self.check_bench(bench, haps, (0, 1))
        bench.undo()
        self.check_bench(bench, {"a": HAPS[4]}, (0, 1))
        bench.undo()
        self.check_bench(bench, {}, (0, 1))
        self.check_refused_by(bench, NoDeed, bench.undo)

    def test_deeds_that_change_nothing_are_undone_too(self):
        bench = Bench()
        bench.put("a", HAPS[4])
        bench.turn((3, 5))
        bench.turn((3, 5))
        bench.push((0, 1))
        bench.put("a", HAPS[4])
        for _ in range(3):
            bench.undo()
            self.check_bench(bench, {"a": HAPS[4]}, (3, 5))
        bench.undo()
        self.check_bench(bench, {"a": HAPS[4]}, (0, 1))
        bench.undo()
        self.check_refused_by(bench, NoDeed, bench.undo)
        bench.turn((0, 1))
        bench.undo()
        self.check_refused_by(bench, NoDeed, bench.undo)

    def test_an_undoing_is_no_deed(self):
        bench = filled(["a", "b", "c"])
        bench.undo()
        bench.undo()
        self.assertEqual(bench.names(), ["a"])
        bench.put("d", HAPS[1])
        bench.undo()
        self.assertEqual(bench.names(), ["a"])
        bench.undo()
        self.check_refused_by(bench, NoDeed, bench.undo)

    def test_put_in_the_stead_and_dropped_again(self):
        bench = filled(["a"])
        bench.put("a", HAPS[3])
        bench.drop("a")
        bench.put("a", HAPS[5])
        self.check_bench(bench, {"a": HAPS[5]}, (0, 1))
        for haps in [{}, {"a": HAPS[3]}, {"a": HAPS[0]}, {}]:
            bench.undo()
            self.check_bench(bench, haps, (0, 1))
        self.check_refused_by(bench, NoDeed, bench.undo)

    def test_pushes(self):
        bench = Bench()
        speed = (0, 1)
        for push in PLAIN_SPEEDS:
            bench.push(push)
            speed = together(speed, push)
            self.check_fraction(bench.speed(), speed)
        bench.turn((-4, 5))
        bench.push((4, 5))
        self.check_fraction(bench.speed(), (0, 1))

    def test_twelve_names_and_a_thirteenth(self):
        names = NAMES[:12]
        bench = filled(names)
        self.assertEqual(bench.names(), sorted(names))
        for name in NAMES[12:]:
            self.check_refused_by(bench, TooMany, bench.put, name, HAPS[0])
        bench.put(names[3], HAPS[0])
        self.check_hap(bench.tell(names[3]), HAPS[0])
        self.check_refused_by(bench, TooMany, bench.put, NAMES[13], HAPS[0])
        bench.drop(names[5])
        bench.put(NAMES[13], HAPS[1])
        self.assertEqual(len(bench.names()), 12)
        self.check_refused_by(bench, TooMany, bench.put, NAMES[12], HAPS[0])
        bench.undo()
        bench.put(NAMES[12], HAPS[1])
        for _ in range(15):
            bench.undo()
        self.assertEqual(bench.names(), [])

    def test_hundreds_of_deeds(self):
        chosen = random.Random(5)
        bench, model, states = Bench(), Model(), []
        for _ in range(400):
            haps, speed = model.told()
            states.append((haps, speed))
            word = chosen.choice(["put", "put", "drop", "turn", "push"])
            if word == "put" and len(haps) < 12:
                deed = ("put", chosen.choice(NAMES), chosen.choice(HAPS))
            elif word == "drop" and haps:
                deed = ("drop", chosen.choice(sorted(haps)))
            elif word == "push" and len(str(speed)) < 500:
                deed = ("push", chosen.choice(PLAIN_SPEEDS))
            else:
                deed = ("turn", chosen.choice(PLAIN_SPEEDS))
            getattr(bench, deed[0])(*deed[1:])
            model.deeds.append(deed)
        self.check_bench(bench, *model.told())
        for at in range(399, -1, -1):
            bench.undo()
            self.assertEqual((bench.names(), bench.speed()), (sorted(states[at][0]), states[at][1]))
            if at % 20 == 0:
                self.check_bench(bench, *states[at])
        self.check_refused_by(bench, NoDeed, bench.undo)

    def test_two_benches_have_nothing_in_common(self):
        one, other = Bench(), Bench()
        one.put("a", HAPS[4])
        one.turn((3, 5))
        self.assertEqual(state(other), state(Bench()))
        self.check_refused_by(other, NoDeed, other.undo)
        other.put("b", HAPS[5])
        other.push((-4, 5))
        self.check_bench(one, {"a": HAPS[4]}, (3, 5))
        self.check_bench(other, {"b": HAPS[5]}, (-4, 5))
        one.undo()
        one.undo()
        self.check_refused_by(one, NoDeed, one.undo)
        self.check_bench(other, {"b": HAPS[5]}, (-4, 5))


class Refusals(BenchCase):
    def test_names_are_one_to_eight_small_letters(self):
        for name in NAMES + list("abcdefghijklmnopqrstuvwxyz") + ["none", "same", "names", "undo", "x" * 8]:
            bench = Bench()
            bench.put(name, HAPS[2])
            self.assertEqual(bench.names(), [name])
            self.check_hap(bench.tell(name), HAPS[2])

    def test_no_names(self):
        bench = filled(["a", "b"])
        bench.turn((3, 5))
        for thing in no_names():
            self.check_refused_by(bench, NoName, bench.put, thing, HAPS[0])
            self.check_refused_by(bench, NoName, bench.put, thing, None)

    def test_names_that_are_not_there(self):
        for bench in [filled(["a", "b"]), Bench()]:
            for thing in no_names() + ["c", "ab", "ba", "aa", "abcdefgh"]:
                self.check_refused_by(bench, NoName, bench.drop, thing)
                self.check_refused_by(bench, NoName, bench.tell, thing)
                self.check_refused_by(bench, NoName, bench.kind, thing, thing)
                if bench.names():
                    self.check_refused_by(bench, NoName, bench.kind, thing, "a")
                    self.check_refused_by(bench, NoName, bench.kind, "a", thing)

    def test_a_dropped_name_is_not_there(self):
        bench = filled(["a", "b"])
        bench.drop("a")
        self.check_refused_by(bench, NoName, bench.drop, "a")
        self.check_refused_by(bench, NoName, bench.tell, "a")
        self.check_refused_by(bench, NoName, bench.kind, "b", "a")
        bench.undo()
        self.check_hap(bench.tell("a"), HAPS[0])

    def test_no_haps(self):
        for bench in [filled(["a"]), filled(NAMES[:12])]:
            for thing in no_haps():
                self.check_refused_by(bench, NoHap, bench.put, "a", thing)
                self.check_refused(NoHap, bench.put, "new", thing)

    def test_no_speeds(self):
        bench = filled(["a", "b"])
        bench.turn((3, 5))
        for call in [bench.turn, bench.push]:
            for thing in no_speeds():
                self.check_refused_by(bench, NoSpeed, call, thing)
            for speed in OTHER_SPEEDS:
                self.check_refused_by(bench, NotPlain, call, speed)

    def test_in_the_order_of_the_document(self):
        bench = filled(NAMES[:12])
        for name, hap, refusal in [("", None, NoName), ("A", HAPS[0], NoName), (NAMES[12], None, NoHap),
                                   (NAMES[12], (0, 1), NoHap), (NAMES[12], HAPS[0], TooMany)]:
            self.check_refused_by(bench, refusal, bench.put, name, hap)

    def test_what_is_refused_is_not_undone(self):
        bench = filled(["a"])
        bench.turn((3, 5))
        for refusal, call, handed in [
            (NoName, bench.put, ("A", HAPS[0])), (NoHap, bench.put, ("b", None)), (NoName, bench.drop, ("b",)),
            (NoSpeed, bench.turn, ((1, 1),)), (NotPlain, bench.push, ((1, 2),)), (NoName, bench.tell, ("b",)),
            (NoName, bench.kind, ("a", "b")),
        ]:
            self.check_refused_by(bench, refusal, call, *handed)
        bench.undo()
        self.check_bench(bench, {"a": HAPS[0]}, (0, 1))
        bench.undo()
        self.check_bench(bench, {}, (0, 1))
        self.check_refused_by(bench, NoDeed, bench.undo)
        bench.put("b", HAPS[1])
        self.check_bench(bench, {"b": HAPS[1]}, (0, 1))


class Questions(BenchCase):
    def test_ordinary_ones(self):
        bench = Bench()
        for name, hap in [("west", ((0, 1), (-1, 1))), ("here", ((0, 1), (0, 1))), ("east", ((0, 1), (1, 1))), ("late", ((2, 1), (1, 1)))]:
            bench.put(name, hap)
        self.assertEqual(bench.names(), ["east", "here", "late", "west"])
        self.assertEqual(bench.order(), [["east", "here", "west"], ["late"]])
        bench.turn((3, 5))
        self.assertEqual(bench.order(), [["east"], ["here"], ["west"], ["late"]])
        bench.turn((-3, 5))
        self.assertEqual(bench.order(), [["west"], ["here"], ["east"], ["late"]])
        self.check_hap(bench.tell("late"), ((13, 4), (11, 4)))
        self.assertEqual([bench.kind("here", name) for name in bench.names()], ["beside", "same", "later", "beside"])
        self.assertEqual([bench.kind(name, "late") for name in bench.names()], ["later", "later", "same", "later"])
        self.assertEqual(bench.kind("late", "here"), "earlier")

    def test_twelve_names_of_one_hap(self):
        bench = Bench()
        for name in NAMES[:12]:
            bench.put(name, HAPS[4])
        self.assertEqual(bench.order(), [sorted(NAMES[:12])])
        self.assertEqual({bench.kind(one, other) for one in NAMES[:12] for other in NAMES[:12]}, {"same"})

    def test_from_each_speed(self):
        bench = filled(NAMES[:9])
        haps = dict(zip(NAMES, HAPS))
        for speed in PLAIN_SPEEDS:
            bench.turn(speed)
            self.check_bench(bench, haps, speed)

    def test_asking_changes_nothing_and_lists_are_new(self):
        bench = filled(NAMES[:5])
        bench.turn((3, 5))
        before = state(bench)
        bench.names().clear()
        bench.names().append("zz")
        bench.order().clear()
        for names in bench.order():
            names.append("zz")
        bench.order()[0].clear()
        names, order = bench.names(), bench.order()
        self.assertEqual(state(bench), before)
        kept = copy.deepcopy((names, order))
        bench.drop(NAMES[0])
        bench.turn((-4, 5))
        self.assertEqual((names, order), kept)
        bench.undo()
        bench.undo()
        self.assertEqual(state(bench), before)
        for _ in range(6):
            bench.undo()
        self.check_refused_by(bench, NoDeed, bench.undo)

    def test_what_was_told_may_be_handed_in_again(self):
        bench = filled(["a", "b"])
        for _ in range(40):
            bench.push(LONG_PLAIN[0][0])
        other = Bench()
        other.turn(bench.speed())
        other.put("a", bench.tell("a"))
        other.put("b", HAPS[1])
        self.assertTrue(other.speed() == bench.speed())
        self.assertTrue(other.tell("b") == bench.tell("b"))
        self.assertTrue(other.tell("a") == told_from((bench.speed(), HAPS[0]), bench.tell("a")))

    def test_quick_with_hundreds_of_pushes(self):
        program = """
import sys
sys.path.insert(0, {path!r})
from samples import HAPS, LONG_PLAIN
from test_bench import NAMES
from seatclocks.bench import Bench
bench = Bench()
for at, name in enumerate(NAMES[:12]):
    bench.put(name, HAPS[at % len(HAPS)])
for at in range(300):
    bench.push(LONG_PLAIN[at % 6][0])
for name in bench.names():
    bench.tell(name)
bench.order()
for at in range(312):
    bench.undo()
print(bench.names(), bench.speed())
""".format(path=__file__.rpartition("/")[0])
        self.assertEqual(ended_quick(program), "[] (0, 1)\n")

    def test_numbers_of_forty_figures(self):
        bench = Bench()
        hap = ((FORTY, 10 ** 39), (-FORTY, FORTY - 1))
        bench.put("a", hap)
        for speed, beat, stretch in LONG_PLAIN:
            bench.turn(speed)
            self.check_bench(bench, {"a": hap}, speed)


if __name__ == "__main__":
    unittest.main()
