"""What looks ahead: settle, halve, bracket and latest, and what is promised of them."""

import random
import unittest
from fractions import Fraction

from tests.asking import (FAR, Model, Refused, ask, bracket, build, exact_rests, greatest_text, halve, heat, house_of,
                          last, latest, open_texts, outside, random_text, run, set_room, settle, temp, trace)

HALF = "room a 0 0\noutside o 8\nlink a o 32\nheater h a 5\n"
# rests at 2/3, and 3/4096 of the way there goes in a step
THIRD = "room a 6 2\noutside o 0\noutside p 1\nlink a o 1\nlink a p 2\n"


class Settle(Refused):
    def test_by_hand(self):
        # the room is 8, 4, 2, 1, 1/2 .. away
        for nearness, steps in ((100000, 0), (8, 0), (7, 1), (4, 1), (3, 2), (2, 2), (1, 3)):
            self.assertEqual(last(build(HALF), settle(nearness, 1000)), [0, 1, steps], nearness)

    def test_the_first_the_last_and_none(self):
        self.assertEqual(ask(build(HALF), settle(8, 0), settle(7, 0), settle(1, 3), settle(1, 2), settle(2, 2),
                             settle(2, 3), settle(2, 1))[1:],
                         [[0, 1, 0], [0, 0], [0, 1, 3], [0, 0], [0, 1, 2], [0, 1, 2], [0, 0]])

    def test_at_rest_itself(self):
        self.assertEqual(last(build(HALF), settle(0, 1000)), [0, 0])
        self.assertEqual(ask(build(HALF), set_room(1, 8), settle(0, 0), settle(0, 1000))[2:], [[0, 1, 0]] * 2)
        at_once = "room a 0 5\noutside o 8\nlink a o 64\n"
        self.assertEqual(ask(build(at_once), settle(0, 0), settle(0, 1), settle(0, 1000))[1:],
                         [[0, 0], [0, 1, 1], [0, 1, 1]])

    def test_from_above_as_from_below(self):
        for warm, nearness, steps in ((16, 1, 3), (0, 1, 3), (17, 1, 4), (-1, 1, 4), (24, 4, 2), (-8, 4, 2)):
            self.assertEqual(last(build(HALF), set_room(1, warm), settle(nearness, 9)), [0, 1, steps])

    def test_all_rooms_must_be_there(self):
        text = "room a 0 8\nroom b 0 0\nroom c 0 16\noutside o 8\nlink a o 64\nlink b o 32\nlink o c 48\n"
        self.assertEqual(ask(build(text), settle(2, 9), settle(1, 9), settle(0, 99), set_room(2, 8),
                             settle(2, 9))[1:],
                         [[0, 1, 2], [0, 1, 3], [0, 0], [0], [0, 1, 1]])

    def test_a_rest_over_no_power_of_two(self):
        # 4/3 away at first
        far, steps = Fraction(4, 3), 0
        while far > 1:
            far, steps = far * Fraction(4093, 4096), steps + 1
        self.assertEqual(ask(build(THIRD), settle(1, steps), settle(1, steps - 1), settle(1, 1000), settle(2, 9))[1:],
                         [[0, 1, steps], [0, 0], [0, 1, steps], [0, 1, 0]])

    def test_a_hair_from_within(self):
        # the rest is 1/65536 off 0, and a single step leads there
        text = "room a 10 5\noutside o 0\noutside p 1\nlink a o 65535\nlink a p 1\n"
        self.assertEqual(ask(build(text), settle(5, 0), settle(4, 0), set_room(1, -5), settle(5, 0), settle(5, 9))[1:],
                         [[0, 1, 0], [0, 0], [0], [0, 0], [0, 1, 1]])
        self.assertEqual(ask(build(text), outside(2, -1), settle(5, 0), settle(5, 9), set_room(1, -5),
                             settle(5, 0))[2:],
                         [[0, 0], [0, 1, 1], [0], [0, 1, 0]])

    def test_outsides_and_levels_as_they_are(self):
        got = ask(build(HALF), outside(1, 0), settle(0, 9), outside(1, 64), settle(1, 9), heat(1, 5), settle(1, 99),
                  outside(1, -10), settle(0, 0))
        self.assertEqual(got[2::2], [[0, 1, 0], [0, 1, 6], [0, 1, 7], [0, 1, 0]])

    def test_from_now_on(self):
        got = ask(build(HALF), run(1), settle(1, 9), run(1), settle(1, 9), run(997), settle(1, 1000), run(1),
                  settle(1, 1000), settle(0, 1000))
        self.assertEqual(got[2::2] + got[9:], [[0, 1, 2], [0, 1, 1], [0, 1, 0], [0, 1, 0], [0, 0]])

    def test_many_buildings(self):
        found = none = 0
        for seed in range(40):
            dice = random.Random(seed)
            text = random_text(dice, dice.randint(1, 7), dice.randint(1, 4), dice.randint(5, 20), dice.randint(0, 3),
                               caps=(0, 1, 2))
            model = Model(text)
            for turn in range(2):
                asked = dice.choice((0, 5, 40, 9000, 60000, 100000)), dice.randint(0, 25)
                due = model.settle(*asked)
                self.assertEqual(last(build(text), settle(*asked)), due, seed)
                found += due[:2] == [0, 1] and due[2] > 0
                none += due == [0, 0]
        self.assertGreater(found, 10)
        self.assertGreater(none, 10)

    def test_no_room_at_all(self):
        self.assertEqual(ask(settle(0, 0), build(""), settle(0, 1000), build("outside o 4\n"), settle(3, 7))[::2],
                         [[0, 1, 0]] * 3)

    def test_out_of_range(self):
        for nearness in (-1, 100001, FAR, -FAR):
            self.refused(settle(nearness, 5), -2)
        for steps in (-1, 1001, FAR, -FAR):
            self.refused(settle(5, steps), -2)
        self.refused(settle(-1, 1001), -2)
        self.assertEqual(ask(settle(-1, 0), settle(0, -1), settle(100001, 0), settle(0, 1001)), [[-2]] * 4)

    def test_no_way_to_an_outside(self):
        for text in ("room a 0 1\n", "room a 0 1\noutside o 1\n", "room a 3 1\nroom b 3 1\noutside o 1\nlink a b 1\n",
                     "room a 3 1\nroom b 3 1\nroom c 3 1\noutside o 1\nlink a o 1\nlink b c 1\n"):
            self.refused(settle(0, 0), -4, [build(text)])
            self.refused(settle(100000, 1000), -4, [build(text)])
            self.refused(settle(-1, 5), -2, [build(text)])
            self.refused(settle(5, 1001), -2, [build(text)])

    def test_it_changes_nothing(self):
        self.assertEqual(self.unchanged(settle(1, 1000))[:2], [0, 1])
        self.assertEqual(self.unchanged(settle(0, 1000)), [0, 0])


class Halve(Refused):
    def test_by_hand(self):
        # 1, 1/2: just no more above it
        self.assertEqual(last(build(HALF), halve(1000)), [0, 1, 1])
        # 1, 3/4, 9/16, 27/64
        self.assertEqual(last(build("room a 1 0\noutside o 8\nlink a o 32\n"), halve(1000)), [0, 1, 3])
        # 33/64, and then less
        self.assertEqual(last(build("room a 0 0\noutside o 8\nlink a o 31\n"), halve(1000)), [0, 1, 2])
        self.assertEqual(last(build("room a 0 0\noutside o 8\nlink a o 64\n"), halve(1000)), [0, 1, 1])
        self.assertEqual(last(build("room a 0 0\noutside o 8\nlink a o 1\n"), halve(1000)), [0, 1, 45])

    def test_the_first_the_last_and_none(self):
        slow = build("room a 0 0\noutside o 8\nlink a o 1\n")
        self.assertEqual(ask(slow, halve(0), halve(44), halve(45), halve(46))[1:],
                         [[0, 0], [0, 0], [0, 1, 45], [0, 1, 45]])
        # (1 - 1/1024)^709 is just above a half, and once more just below
        self.assertEqual(ask(build("room a 4 0\noutside o 8\nlink a o 1\n"), halve(709), halve(710))[1:],
                         [[0, 0], [0, 1, 710]])
        self.assertEqual(last(build("room a 10 0\noutside o 8\nlink a o 1\n"), halve(1000)), [0, 0])

    def test_no_room_may_be_above(self):
        text = "room a 0 0\nroom b 1 0\noutside o 8\nlink a o 64\nlink b o 32\n"
        self.assertEqual(last(build(text), halve(9)), [0, 1, 3])
        # b is reached through a alone: 1, 1 / 1/2, 1 / 1/2, 3/4 / 3/8, 5/8 / 5/16, 1/2
        text = "room a 0 0\nroom b 0 0\noutside o 8\nlink a o 32\nlink b a 32\n"
        model = Model(text)
        self.assertEqual(last(build(text), halve(9)), model.halve(9))
        self.assertGreater(model.halve(9)[2], 2)

    def test_it_hangs_on_no_temperature_and_no_level(self):
        for warm in (-100000, 0, 100000):
            self.assertEqual(ask(build(HALF), outside(1, warm), heat(1, 5), set_room(1, -warm), run(900),
                                 halve(1000))[5], [0, 1, 1])

    def test_rooms_without_a_way_out(self):
        for text in ("room a 0 1\n", "room a 0 -5\noutside o 1\n", "room a 3 1\nroom b 3 1\nlink a b 1\n",
                     "room a 0 0\nroom b 0 0\nroom c 0 0\noutside o 1\nlink a o 64\nlink b c 7\n"):
            self.assertEqual(ask(build(text), halve(0), halve(1000))[1:], [[0, 0], [0, 0]])

    def test_many_buildings(self):
        found = none = 0
        for seed in range(40):
            dice = random.Random(seed)
            text = random_text(dice, dice.randint(1, 7), dice.randint(1, 4), dice.randint(5, 20), 0, caps=(0, 1, 2))
            steps = dice.randint(0, 40)
            due = Model(text).halve(steps)
            self.assertEqual(last(build(text), halve(steps)), due, seed)
            found += due[:2] == [0, 1]
            none += due == [0, 0]
        self.assertGreater(found, 8)
        self.assertGreater(none, 8)

    def test_no_room_at_all(self):
        self.assertEqual(ask(halve(0), build("outside o 4\n"), halve(1000))[::2], [[0, 1, 0]] * 2)

    def test_out_of_range(self):
        for steps in (-1, 1001, FAR, -FAR):
            self.refused(halve(steps), -2)
            self.refused(halve(steps), -2, [build("")])
            self.refused(halve(steps), -2, [build("room a 0 1\n")])

    def test_it_changes_nothing(self):
        self.assertEqual(self.unchanged(halve(1000))[:2], [0, 1])
        self.assertEqual(self.unchanged(halve(0)), [0, 0])


class Halved(unittest.TestCase):
    def play(self, text, dice):
        """The distances from rest now, and behind as many steps as halve tells, and behind as many again."""
        answer, found, steps = last(build(text), halve(1000))
        self.assertEqual((answer, found), (0, 1))
        house = house_of(text)
        house.outsides = [dice.randint(-100000, 100000) for outside in house.outsides]
        house.levels = [dice.randint(0, most) for most in house.plan.mosts()]
        aims = exact_rests(text, house.outsides, house.levels)
        distances = []
        for turn in range(3):
            warm = [Fraction(whole, 2 ** house.warmth.power) for whole in house.warmth.rooms]
            distances.append(max(abs(x - y) for x, y in zip(warm, aims)))
            house.run(steps)
        return distances

    def test_any_distance_from_rest_is_halved(self):
        for text in open_texts(15, 5, 2, 12, 3, caps=(0, 1, 2, 3)):
            first, second, third = self.play(text, random.Random(text))
            self.assertLessEqual(2 * second, first)
            self.assertLessEqual(2 * third, second)
            self.assertGreater(first, 0)

    def test_with_all_rooms_alike_no_fewer_steps_would_do(self):
        for text in open_texts(15, 5, 2, 12, 0, caps=(0, 1, 2, 3)):
            steps = last(build(text), halve(1000))[2]
            start = [build(text), outside(1, 0), outside(2, 0)] + [set_room(room, 65536) for room in range(1, 6)]
            looks = [trace(room) for room in range(1, 6)]
            within = max(row[1] for row in ask(*start, run(steps), *looks)[-5:])
            self.assertLessEqual(within, 32768000000)
            # the one step less leaves some room above the half
            before = ask(*start, *[run(steps - 1)] * (steps > 1), *looks)[-5:]
            self.assertGreaterEqual(max(row[1] for row in before), 32768000000)
            self.assertGreater(max(row[1] for row in before), within)


class Bracket(Refused):
    def test_by_hand(self):
        text = "room a 0 0\nroom b 1 12\noutside o 8\nlink a o 32\nheater h a 5\nheater i b 9\n"
        self.assertEqual(ask(build(text), bracket(0, [8, 0, 0], [8, 0, 0]), bracket(1, [-8, 0, 1], [8, 5, 9]),
                             bracket(2, [-8, 0, 1], [8, 5, 9]))[1:],
                         [[0, 0, 0, 12000000, 12000000], [0, -4000000, 9000000, 12500000, 16500000],
                          [0, -6000000, 13500000, 13000000, 21000000]])

    def test_rounded_down_below_zero_too(self):
        text = "room a 0 0\noutside o 0\nlink a o 1\n"
        self.assertEqual(ask(build(text), bracket(2, [-1], [1]))[1], [0, -31006, 31005])

    def test_the_same_list_twice_is_what_a_run_comes_to(self):
        for text in (self.TEXT, greatest_text()):
            model = Model(text)
            rooms, heaters = len(model.rooms), len(model.heaters)
            now = model.weather()[:len(model.outsides)] + [7] * heaters
            looks = [trace(room) for room in range(1, rooms + 1)]
            start = [build(text)] + [heat(i + 1, 7) for i in range(heaters)]
            for steps in (1, 13, 1000):
                warm = [row[1] for row in ask(*start, run(steps), *looks)[-rooms:]]
                self.assertEqual(last(*start, bracket(steps, now, now)),
                                 [0] + [number for number in warm for end in range(2)])

    def test_it_hangs_not_on_outsides_and_levels_now_but_on_temperatures(self):
        text = self.TEXT
        model = Model(text)
        model.set_weather([33, -1, 29, 8000])
        for step in range(4):
            model.step()
        due = model.bracket(5, [-5, -6, 0, 4], [-5, 7, 30, 1000000])
        for weather in ([0, 0, 0, 0], [100000, -100000, 30, 1000000]):
            calls = [outside(1, weather[0]), outside(2, weather[1]), heat(1, weather[2]), heat(2, weather[3])]
            self.assertEqual(last(build(text), outside(1, 33), outside(2, -1), heat(1, 29), heat(2, 8000), run(4),
                                  *calls, bracket(5, [-5, -6, 0, 4], [-5, 7, 30, 1000000])), due)

    def test_the_clock_has_no_end_for_it(self):
        self.assertEqual(ask(build(HALF), run(1000), set_room(1, 0), bracket(1000, [0, 0], [0, 0]))[3], [0, 0, 0])

    def test_many_buildings(self):
        for seed in range(30):
            dice = random.Random(seed)
            text = random_text(dice, dice.randint(1, 12), dice.randint(0, 4), dice.randint(0, 40), dice.randint(0, 8))
            model = Model(text)
            bounds = [(-100000, 100000)] * len(model.outsides) + [(0, model.most[name]) for name, room in model.heaters]
            pairs = [sorted((dice.randint(*bound), dice.randint(*bound))) for bound in bounds]
            lower, upper = [low for low, high in pairs], [high for low, high in pairs]
            steps = dice.randint(0, 9)
            self.assertEqual(last(build(text), bracket(steps, lower, upper)), model.bracket(steps, lower, upper), seed)

    def test_nothing_at_all(self):
        self.assertEqual(ask(bracket(0, [], []), build("outside o 4\n"), bracket(1000, [-100000], [100000]),
                             build("room a 0 3\n"), bracket(1000, [], []))[::2], [[0], [0], [0, 3000000, 3000000]])

    def test_the_edges_of_its_ranges(self):
        self.assertEqual(ask(build(HALF), bracket(0, [-100000, 0], [100000, 5]),
                             bracket(1000, [100000, 5], [100000, 5]), bracket(1, [-100000, 0], [-100000, 0]))[1:],
                         [[0, 0, 0], [0, 100009999999, 100009999999], [0, -50000000000, -50000000000]])

    def test_no_such_number_of_steps(self):
        for steps in (-1, 1001, FAR, -FAR):
            self.refused(bracket(steps, [1, 1, 1, 1], [1, 1, 1, 1]), -2)

    def test_lists_of_other_lengths(self):
        right = [1, 1, 1, 1]
        for count in list(range(4)) + list(range(5, 21)):
            self.refused(bracket(1, [1] * count, right), -2)
            self.refused(bracket(1, right, [1] * count), -2)
            self.refused(bracket(1, [1] * count, [1] * count), -2)
        self.assertEqual(ask(bracket(1, [], [0]), bracket(1, [0], []), bracket(1, [FAR] * 20, [FAR] * 20),
                             bracket(1, [], []), bracket(0, [0] * 20, [0] * 20), temp(1)),
                         [[-2], [-2], [-2], [0], [-2], [-1]])

    def test_twelve_numbers_are_the_most_that_are_right(self):
        text = greatest_text()
        self.assertEqual(len(last(build(text), bracket(1, [0] * 12, [1] * 12))), 25)
        for count in (11, 13, 20):
            self.refused(bracket(1, [0] * count, [1] * count), -2, [build(text)])

    def test_numbers_beyond_their_ranges(self):
        low, high = [-5, -5, 1, 1], [5, 5, 9, 9]
        for place, beyond in ((0, -100001), (1, -100001), (2, -1), (3, -1), (0, -FAR), (3, -FAR)):
            self.refused(bracket(1, low[:place] + [beyond] + low[place + 1:], high), -2)
        for place, beyond in ((0, 100001), (1, 100001), (2, 31), (3, 1000001), (1, FAR), (2, FAR)):
            self.refused(bracket(1, low, high[:place] + [beyond] + high[place + 1:]), -2)
            both = high[:place] + [beyond] + high[place + 1:]
            self.refused(bracket(1, both, both), -2)

    def test_one_greater_in_the_first(self):
        for place in range(4):
            low = [5, 5, 5, 5]
            low[place] = 6
            self.refused(bracket(1, low, [5, 5, 5, 5]), -2)
            self.refused(bracket(0, low, [5, 5, 5, 5]), -2)
        self.assertEqual(self.unchanged(bracket(1, [5, 5, 5, 5], [5, 5, 5, 6]))[0], 0)

    def test_several_at_once(self):
        self.refused(bracket(1001, [6, 5], [5, 5, 5, 5]), -2)
        self.refused(bracket(-1, [FAR] * 4, [-FAR] * 4), -2)

    def test_what_follows_its_lists_is_the_call_behind_it(self):
        self.assertEqual(ask(build(HALF), bracket(1, [8, 0], [8, 2]), temp(1), bracket(1, [0] * 20, []), temp(1),
                             bracket(1, [], [0] * 20), temp(1))[1:],
                         [[0, 4000000, 6000000], [0, 0, 0, 0], [-2], [0, 0, 0, 0], [-2], [0, 0, 0, 0]])

    def test_it_changes_nothing(self):
        self.assertEqual(self.unchanged(bracket(1000, [-5, -5, 0, 0], [5, 5, 30, 1000000]))[0], 0)
        self.assertEqual(self.unchanged(bracket(0, [-5, -5, 0, 0], [5, 5, 30, 1000000]))[0], 0)


class Holding(unittest.TestCase):
    def play(self, text, dice):
        """Runs with outsides and levels that change within bounds, beside brackets told ahead."""
        model = Model(text)
        bounds = [(-100000, 100000)] * len(model.outsides) + [(0, model.most[name]) for name, room in model.heaters]
        pairs = [sorted((dice.randint(*bound), dice.randint(*bound))) for bound in bounds]
        lower, upper = [low for low, high in pairs], [high for low, high in pairs]
        ahead = ask(build(text), *[bracket(steps, lower, upper) for steps in range(1, 9)])[1:]
        calls, looks = [build(text)], [trace(room + 1) for room in range(len(model.rooms))]
        for turn in range(8):
            numbers = [dice.choice((low, high, dice.randint(low, high))) for low, high in pairs]
            count = len(model.outsides)
            calls += [outside(i + 1, numbers[i]) for i in range(count)]
            calls += [heat(i + 1, x) for i, x in enumerate(numbers[count:])]
            calls += [run(1)] + looks
        warm = [answer[1] for call, answer in zip(calls, ask(*calls)) if call[0] == 6]
        return [row[1:] for row in ahead], [warm[i:i + len(looks)] for i in range(0, len(warm), len(looks))]

    def test_a_bracket_holds_whatever_comes_between_step_by_step(self):
        for seed in range(25):
            dice = random.Random(seed)
            text = random_text(dice, 5, 3, 16, 4)
            ahead, warm = self.play(text, dice)
            self.assertEqual(len(warm), 8)
            for row, here in zip(ahead, warm):
                for room, x in enumerate(here):
                    self.assertTrue(row[2 * room] <= x <= row[2 * room + 1], seed)

    def test_a_wider_bracket_holds_a_narrower_one(self):
        for steps in (1, 30, 1000):
            wide, narrow = ask(build(greatest_text()),
                               bracket(steps, [-70000] * 4 + [3] * 8, [70000] * 4 + [900000] * 8),
                               bracket(steps, [-69999] * 4 + [4] * 8, [69999] * 4 + [899999] * 8))[1:]
            for room in range(12):
                self.assertLessEqual(wide[1 + 2 * room], narrow[1 + 2 * room])
                self.assertLessEqual(narrow[1 + 2 * room], narrow[2 + 2 * room])
                self.assertLessEqual(narrow[2 + 2 * room], wide[2 + 2 * room])

    def test_what_is_nowhere_colder_at_first_stays_so(self):
        # two buildings of which one is nowhere colder inside, each by lists of which its own are nowhere lower
        for text in open_texts(10, 5, 2, 14, 3):
            dice = random.Random(text)
            model = Model(text)
            warmer = [set_room(i + 1, dice.randint(int(model.warm[name]), 100000))
                      for i, name in enumerate(model.rooms)]
            cold = [dice.randint(-100000, 0) for i in range(2)] + [dice.randint(0, 1) for i in range(3)]
            warm = [x + dice.choice((0, 1, 90000)) for x in cold[:2]] + [dice.randint(x, 1) for x in cold[2:]]
            for steps in (0, 1, 2, 40):
                below = last(build(text), bracket(steps, cold, cold))[1::2]
                above = last(build(text), *warmer, bracket(steps, warm, warm))[1::2]
                self.assertTrue(all(x <= y for x, y in zip(below, above)))


class Latest(Refused):
    # nothing is ever lost here: a step's heat is a degree
    KEPT = "room a 0 0\nheater h a 1\n"

    def test_by_hand(self):
        for temperature, unheated in ((3, 7), (10, 0), (9, 1), (1, 9), (0, 10), (-1, 10), (-100000, 10)):
            self.assertEqual(last(build(self.KEPT), latest(1, temperature, 10)), [0, unheated], temperature)
        self.assertEqual(ask(build(self.KEPT), latest(1, 11, 10), latest(1, 100000, 60))[1:], [[-5], [-5]])

    def test_heat_leaks_away_again(self):
        # 8 degrees out: unheated 0, 4, 6, 7; a step's heat is 8 more, then 4, then 2 of it are left
        text = "room a 0 0\noutside o 8\nlink a o 32\nheater h a 8\n"
        for temperature, unheated in ((7, 3), (8, 2), (15, 2), (16, 1), (19, 1), (20, 0), (21, 0)):
            self.assertEqual(last(build(text), latest(1, temperature, 3)), [0, unheated], temperature)
        self.assertEqual(last(build(text), latest(1, 22, 3)), [-5])

    def test_the_first_the_last_and_none(self):
        self.assertEqual(ask(build(self.KEPT), latest(1, 0, 0), latest(1, 1, 0), latest(1, -1, 0), latest(1, 60, 60),
                             latest(1, 61, 60), latest(1, 0, 60), latest(1, 1, 60), latest(1, 1, 1))[1:],
                         [[0, 0], [-5], [0, 0], [0, 0], [-5], [0, 60], [0, 59], [0, 0]])

    def test_just_warm_enough_to_the_last_bit(self):
        # unheated 0, 16, 24, 28, 30, 31; a degree more if heated at last, not quite two if always
        text = "room a 0 0\noutside o 32\nlink a o 32\nheater h a 1\n"
        self.assertEqual(ask(build(text), latest(1, 31, 5), latest(1, 32, 5), latest(1, 33, 5))[1:],
                         [[0, 5], [0, 4], [-5]])
        self.assertEqual(ask(build(text), set_room(1, 31), latest(1, 32, 1), latest(1, 33, 1), run(1), latest(1, 32, 0),
                             latest(1, 31, 0))[2:], [[0, 0], [-5], [0, 1], [-5], [0, 0]])

    def test_levels_now_are_of_no_account_but_outsides_and_temperatures_are(self):
        text = ("room a 0 0\nroom b 2 5\noutside o 8\nlink a o 32\nlink b a 16\n"
                "heater h a 8\nheater i b 9\nheater j b 3\n")
        model = Model(text)
        for weather in ([8, 8, 9, 3], [8, 0, 0, 1], [-90, 0, 5, 3], [-90, 8, 9, 3]):
            calls = [outside(1, weather[0]), heat(1, weather[1]), heat(2, weather[2]), heat(3, weather[3])]
            model.set_weather(weather)
            for temperature in (-40, -20, 0, 10, 20, 30, 40):
                self.assertEqual(last(build(text), *calls, latest(2, temperature, 9)), model.latest(2, temperature, 9))

    def test_a_heater_that_makes_no_difference(self):
        text = "room a 0 7\nroom b 0 0\noutside o 7\nlink a o 5\nlink b o 6\nheater h b 1000000\n"
        self.assertEqual(ask(build(text), latest(1, 7, 60), latest(1, 8, 60), latest(2, 8, 60))[1:],
                         [[0, 60], [-5], [0, 59]])

    def test_without_heaters(self):
        self.assertEqual(ask(build("room a 0 3\n"), latest(1, 3, 60), latest(1, 4, 60), latest(1, 3, 0))[1:],
                         [[0, 60], [-5], [0, 0]])

    def test_a_far_heater_must_start_sooner(self):
        text = "room a 0 0\nroom b 0 0\nroom c 0 0\nlink a b 16\nlink b c 16\nheater h a 64\n"
        model = Model(text)
        got = [last(build(text), latest(room, 2, 12)) for room in (1, 2, 3)]
        self.assertEqual(got, [model.latest(room, 2, 12) for room in (1, 2, 3)])
        self.assertEqual(sorted(got, reverse=True), got)
        self.assertNotEqual(got[0], got[2])

    def test_many_buildings(self):
        between = 0
        for seed in range(40):
            dice = random.Random(seed)
            text = random_text(dice, dice.randint(1, 6), dice.randint(0, 3), dice.randint(0, 14), dice.randint(1, 5))
            model = Model(text)
            steps = dice.randint(0, 12)
            for room in range(1, len(model.rooms) + 1):
                # somewhere near where it comes to, so that the start matters
                cold = model.behind(steps, model.weather()[:len(model.outsides)] + [0] * len(model.heaters))[room - 1]
                asked = room, max(-100000, min(100000, int(cold) + dice.choice((0, 1, 500, 5000, 90000)))), steps
                due = model.latest(*asked)
                self.assertEqual(last(build(text), latest(*asked)), due, seed)
                between += due[0] == 0 and 0 < due[1] < steps
        self.assertGreater(between, 15)

    def test_no_such_room(self):
        for number in (0, 3, -1, -2, FAR, -FAR):
            self.refused(latest(number, 0, 5), -1)
        self.assertEqual(ask(latest(1, 0, 0)), [[-1]])

    def test_out_of_range(self):
        for temperature in (100001, -100001, FAR, -FAR):
            self.refused(latest(1, temperature, 5), -2)
        for steps in (-1, 61, 1000, FAR, -FAR):
            self.refused(latest(1, 5, steps), -2)

    def test_several_at_once(self):
        self.refused(latest(3, 100001, 5), -1)
        self.refused(latest(0, 5, 61), -1)
        self.refused(latest(1, 100001, -1), -2)
        # no step would make it so warm, but that is told later
        self.refused(latest(1, 100001, 0), -2)
        self.refused(latest(1, 100000, 61), -2)
        self.refused(latest(3, 100000, 5), -1)
        self.refused(latest(1, 100000, 5), -5)

    def test_it_changes_nothing(self):
        self.assertEqual(self.unchanged(latest(2, 100000, 5)), [0, 3])
        self.assertEqual(self.unchanged(latest(2, -100000, 60)), [0, 60])


if __name__ == "__main__":
    unittest.main()
