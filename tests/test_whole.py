"""What the document promises of the whole program, each sentence by several modules together."""

import copy
import itertools
import unittest

from samples import (
    FORTY, HAP_LISTS, HAPS, LONG_PLAIN, OTHER_FORTY, PLACES, PLAIN_SPEEDS, SPEEDS, Case, chance_haps, haps_at, nested,
    other_things, spoil, standard,
)
from seatclocks import bench, chains, desk, flashes, fractions, haps, orders, rods, seats, speeds, texts, ways
from seatclocks.errors import MotionError

ORIGIN = ((0, 1), (0, 1))
SEATS = [(speed, HAPS[at % len(HAPS)]) for at, speed in enumerate(PLAIN_SPEEDS)] + [((0, 1), ORIGIN), ((3, 5), HAPS[4])]
LISTS = HAP_LISTS + [chance_haps(900 + seed, 1 + seed % 8, 5) for seed in range(16)]
ROWS = [
    "put a 0@0", "put b 1@2", "turn 3/5", "put c 5@-1/2", "push -4/5", "put a -7/3@2/9", "push 12/13", "drop b", "turn -5/13",
    "put d 5@-1/2", "put b 0@0", "push 0", "put e 11@-11",
]


class Speeds(Case):
    def test_speeds_put_together_are_speeds_and_plain_ones_plain(self):
        for one in SPEEDS:
            for other in SPEEDS:
                both = speeds.together(one, other)
                self.assertIs(speeds.is_speed(both), True)
                if one in PLAIN_SPEEDS and other in PLAIN_SPEEDS:
                    self.assertIs(speeds.is_plain(both), True)
                    stretch = fractions.times(speeds.stretch_of(one), speeds.stretch_of(other))
                    self.assertEqual(speeds.stretch_of(both), stretch)

    def test_taken_off_again_they_are_what_they_were(self):
        for one in SPEEDS:
            for other in SPEEDS:
                self.check_fraction(speeds.taken(speeds.together(one, other), other), one)
                self.check_fraction(speeds.together(speeds.taken(one, other), other), one)

    def test_so_many_times_and_taken_off_again(self):
        for speed in SPEEDS[::3]:
            whole = speeds.many_times(speed, 60)
            for often in range(60):
                if often < 5:
                    self.assertEqual(whole, speeds.many_times(speed, 60 - often))
                whole = speeds.taken(whole, speed)
            self.assertEqual(whole, (0, 1))


class Seats(Case):
    def test_what_a_seat_tells_of_a_hap_leads_back_to_it(self):
        for seat in SEATS:
            for hap in HAPS:
                self.check_hap(seats.turned_back(seat, seats.told_from(seat, hap)), hap)

    def test_a_seat_told_by_another_one_tells_as_it_would_by_itself(self):
        for one in SEATS[::2]:
            for other in SEATS[::3]:
                told = seats.seat_from(one, other)
                self.assertEqual(seats.seat_by(one, told), other)
                for hap in HAPS:
                    self.assertEqual(seats.told_from(told, seats.told_from(one, hap)), seats.told_from(other, hap))

    def test_through_a_row_of_seats(self):
        chosen = SEATS[:6]
        for hap in HAPS:
            told = hap
            for seat in chosen:
                told = seats.told_from(seat, told)
            for seat in reversed(chosen):
                told = seats.turned_back(seat, told)
            self.check_hap(told, hap)


class Rods(Case):
    def test_no_rod_is_longer_than_from_its_own_speed(self):
        for own in PLAIN_SPEEDS:
            for ends in PLACES[::2]:
                rod = (own,) + ends
                longest = rods.own_length(rod)
                for speed in PLAIN_SPEEDS:
                    self.assertIs(fractions.is_less(longest, rods.length_from(rod, speed)), False)
                    again = rods.rod_from(rod, speed)
                    self.assertEqual(rods.own_length(again), longest)

    def test_nor_than_from_itself_where_that_is_not_plain(self):
        # By a rod as long from the other speed, which stands there: from its own speed the first one is no shorter.
        for own in SPEEDS:
            for ends in PLACES[::3]:
                rod = (own,) + ends
                for speed in PLAIN_SPEEDS[:8]:
                    length = rods.length_from(rod, speed)
                    still = (speed, (0, 1), fractions.times(length, speeds.beat_of(speed)))
                    self.assertEqual(rods.own_length(still), length)
                    self.assertIs(rods.is_no_longer(still, rod, own), True)


class Chains(Case):
    def test_as_few_chains_hold_all_as_haps_are_apart(self):
        for told in LISTS + [chance_haps(700 + seed, 9 + seed % 4, 3) for seed in range(60)]:
            held, apart = chains.fewest_chains(told)
            self.assertEqual(len(held), len(apart))
            self.assertIs(chains.shows_fewest(told, (held, apart)), True)
            self.assertEqual(sorted(number for chain in held for number in chain), list(range(len(told))))
            for i, j in itertools.permutations(apart, 2):
                self.assertEqual(orders.kind_of(told[i], told[j]), "beside")

    def test_haps_apart_are_at_one_time_from_seats_or_change_their_turn(self):
        for told in LISTS:
            for i, j in itertools.combinations(range(len(told)), 2):
                apart = j not in chains.reached(told)[i] and i not in chains.reached(told)[j]
                self.assertEqual(apart, orders.even_speed(told[i], told[j]) is not None)

    def test_a_way_is_along_a_chain(self):
        for told in LISTS:
            for start, end in itertools.permutations(range(len(told)), 2):
                best = ways.most_way(told, start, end)
                if best is not None:
                    self.assertIs(chains.is_chain(told, best[1]), True)


class Flashes(Case):
    def test_what_a_flash_sent_and_sent_back_tells_is_what_the_seat_tells(self):
        for seat in SEATS:
            for hap in HAPS:
                sent, come = flashes.sent_at(seat, hap), flashes.comes_at(seat, hap)
                time, place = seats.told_from(seat, hap)
                way = -1 if place[0] < 0 else 1
                self.assertEqual(standard(time), (standard(sent) + standard(come)) / 2)
                self.assertEqual(standard(place), way * (standard(come) - standard(sent)) / 2)
                self.check_hap(flashes.hap_by_flashes(seat, sent, come, way), hap)
                self.assertEqual(seats.told_from(seat, flashes.hap_by_flashes(seat, sent, come, way)), (time, place))

    def test_a_flash_that_is_turned_back_once_tells_where_it_was(self):
        for one in SEATS[::2]:
            for other in SEATS[::3]:
                for time in [(0, 1), (-7, 3), (FORTY, OTHER_FORTY)]:
                    turned, back = flashes.bounces(one, other, time, 2)
                    come = seats.told_from(one, back)[0]
                    self.assertIn(turned, [flashes.hap_by_flashes(one, time, come, way) for way in [1, -1]])
                    self.assertEqual(flashes.beats_come(one, other, time, (1, 1), 1), [seats.told_from(other, turned)[0]])


class Orders(Case):
    def test_an_order_is_told_just_where_no_paper_shows_that_none_does(self):
        for told in LISTS:
            known = orders.orders(told)
            tried = known + [order[::-1] for order in known] + [order[1:] + order[:1] for order in known]
            for order in tried + [tuple(range(len(told)))]:
                speed, paper = orders.speed_for(told, order), orders.none_for(told, order)
                self.assertEqual(speed is None, paper is not None)
                self.assertEqual(speed is not None, order in known)
                if speed is None:
                    self.assertIs(orders.shows_none(told, order, paper), True)
                else:
                    self.assertEqual(orders.order_at(told, speed), [[number] for number in order])
                    seen = [seats.told_from((speed, HAPS[5]), hap)[0] for hap in told]
                    self.assertEqual(sorted(range(len(told)), key=lambda at: standard(seen[at])), list(order))


class Ways(Case):
    def test_no_way_takes_more_own_time_than_the_marks_let(self):
        found = 0
        for told in LISTS + [haps_at([(0, 0), (5, 3), (5, -3), (10, 0), (13, 0), (18, 4)])]:
            for start, end in itertools.permutations(range(len(told)), 2):
                marks = ways.marks_for(told, start, end)
                most = ways.most_way(told, start, end)
                self.assertEqual(marks is None, most is None)
                if most is None:
                    continue
                found += 1
                self.assertIs(ways.shows_most(told, start, end, most[0], marks), True)
                self.assertEqual(marks[end], most[0])
                for numbers in [most[1], ways.least_way(told, start, end)[1], (start, end)]:
                    try:
                        own = ways.own_along([told[at] for at in numbers])
                    except MotionError:
                        continue
                    self.assertIs(fractions.is_less(most[0], own), False)
        self.assertGreater(found, 100)

    def test_a_clock_that_goes_straight_shows_the_own_time(self):
        for seat in SEATS:
            one, other = seats.hap_by_clock(seat, (-2, 3)), seats.hap_by_clock(seat, (5, 7))
            self.check_fraction(ways.own_time(one, other), (29, 21))


class Benches(Case):
    def check_anew(self, told, put, speed):
        """The bench tells what its haps, put anew at a bench that turns to the speed, are from its seat."""
        anew = bench.Bench()
        for name in sorted(put, reverse=True):
            anew.put(name, put[name])
        anew.turn(speed)
        self.assertEqual(told.names(), anew.names())
        self.assertEqual(told.speed(), anew.speed())
        self.assertEqual(told.order(), anew.order())
        for name in put:
            self.assertEqual(told.tell(name), anew.tell(name))
            self.assertEqual(told.tell(name), seats.told_from((speed, ORIGIN), put[name]))
            self.assertEqual([told.kind(name, other) for other in put], [anew.kind(name, other) for other in put])

    def test_at_every_time(self):
        first, kept = bench.Bench(), []
        put, speed = {}, (0, 1)
        for row in ROWS:
            word, *rest = row.split(" ")
            kept.append((dict(put), speed))
            if word == "put":
                put[rest[0]] = texts.haps_read(rest[1])[0]
                first.put(rest[0], put[rest[0]])
            elif word == "drop":
                del put[rest[0]]
                first.drop(rest[0])
            else:
                told = texts.fraction_read(rest[0])
                speed = told if word == "turn" else speeds.together(speed, told)
                (first.turn if word == "turn" else first.push)(told)
            self.check_anew(first, put, speed)
        for put, speed in reversed(kept):
            first.undo()
            self.check_anew(first, put, speed)

    def test_the_order_of_a_bench_is_that_of_its_haps(self):
        for told in LISTS:
            names = ["abcdefgh"[at] for at in range(len(told))]
            asked = bench.Bench()
            for name, hap in zip(names, told):
                asked.put(name, hap)
            for speed in PLAIN_SPEEDS[::4]:
                asked.turn(speed)
                self.assertEqual(asked.order(), [[names[at] for at in numbers] for numbers in orders.order_at(told, speed)])

    def test_a_desk_answers_as_its_bench(self):
        asked = desk.Desk()
        for row in ROWS:
            self.assertEqual(asked.say(row), "ok")
        told = texts.haps_read(" ".join(asked.say("tell " + name) for name in asked.say("names").split(" ")))
        self.assertEqual([haps.is_hap(hap) for hap in told], [True] * len(told))
        speed = texts.fraction_read(asked.say("speed"))
        # What the seat tells leads back to the haps by the seat, whose speed the desk tells, too.
        there = [seats.turned_back((speed, ORIGIN), hap) for hap in told]
        self.assertEqual(texts.haps_text(there), "-7/3@2/9 0@0 5@-1/2 5@-1/2 11@-11")


class Anything(Case):
    """What is handed in is as it was, to the last list within, also where it is refused."""

    CALLS = [
        (fractions.is_fraction, 0), (haps.is_hap, 0), (texts.fraction_read, 0), (texts.haps_read, 0), (speeds.is_speed, 0),
        (speeds.speed_of, 0), (speeds.beat_of, 0), (seats.is_seat, 0), (seats.told_from, 1), (seats.clock_at, 1), (rods.is_rod, 0),
        (rods.own_length, 0), (rods.within, 1), (orders.turns, 0), (orders.none_for, 1), (chains.reached, 0),
        (chains.is_chain, 1), (chains.shows_fewest, 1), (ways.own_along, 0), (ways.own_time, 1), (flashes.comes_at, 1),
        (flashes.stretch_between, 1),
    ]
    AHEAD = {
        seats.told_from: [((3, 5), ORIGIN)], seats.clock_at: [((3, 5), ORIGIN)], rods.within: [((3, 5), (0, 1), (1, 1))],
        orders.none_for: [HAP_LISTS[8]], chains.is_chain: [HAP_LISTS[8]], chains.shows_fewest: [HAP_LISTS[8]],
        ways.own_time: [ORIGIN], flashes.comes_at: [((3, 5), ORIGIN)], flashes.stretch_between: [((3, 5), ORIGIN)],
    }

    def answered(self, call, handed):
        """What is told, or the class by which it is refused."""
        try:
            return call(*handed)
        except MotionError as refusal:
            return type(refusal)

    def test_of_anything_twice_and_left_as_it_was(self):
        mixed = [[{0: [ORIGIN, [1, {"a": ()}]]}, (None, [True])], {"haps": [list(hap) for hap in HAPS]}, (nested("dict", 58), [])]
        for call, ahead in self.CALLS:
            for thing in other_things() + mixed:
                handed = copy.deepcopy(self.AHEAD.get(call, [])) + [thing]
                twin = copy.deepcopy(handed)
                told = self.answered(call, handed)
                self.assertEqual(self.answered(call, handed), told)
                self.assertTrue(handed == twin)

    def test_lists_told_by_two_modules_do_not_hang_together(self):
        told = copy.deepcopy(HAP_LISTS[9])
        first = [orders.orders(told), orders.turns(told), chains.reached(told), chains.steps_of(told), chains.fewest_chains(told)]
        kept = copy.deepcopy(first)
        again = [orders.orders(told), orders.turns(told), chains.reached(told), chains.steps_of(told), chains.fewest_chains(told)]
        spoil(first)
        self.assertEqual(again, kept)
        spoil(told)
        self.assertEqual(again, kept)

    def test_what_was_told_may_be_handed_in_whatever_its_size(self):
        grown = speeds.many_times(LONG_PLAIN[0][0], 60)
        seat = (grown, seats.told_from((grown, HAPS[6]), HAPS[7]))
        self.assertTrue(seats.is_seat(seat) is True)
        hap = seats.turned_back(seat, HAPS[8])
        self.assertTrue(seats.told_from(seat, hap) == HAPS[8])
        self.assertTrue(orders.kind_of(hap, hap) == "same")
        self.assertTrue(orders.orders([hap]) == [(0,)])
        self.assertTrue(len(orders.orders([hap, HAPS[8], HAPS[7]])) == len(orders.turns([hap, HAPS[8], HAPS[7]])) + 1)
        self.assertTrue(flashes.hap_by_flashes(seat, flashes.sent_at(seat, hap), flashes.comes_at(seat, hap), -1) == hap)
        self.assertTrue(rods.is_rod(rods.rod_from((grown, (0, 1), (1, 1)), grown)) is True)
        self.assertTrue(chains.shows_fewest([hap, HAPS[0]], chains.fewest_chains([hap, HAPS[0]])) is True)
        kept = bench.Bench()
        kept.put("a", hap)
        kept.turn(grown)
        self.assertTrue(kept.tell("a") == seats.told_from((grown, ORIGIN), hap))


if __name__ == "__main__":
    unittest.main()
