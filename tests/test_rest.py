"""Where a building comes to rest: rest and least, that there's one rest, and that rooms bear on one another alike."""

import random
import unittest
from fractions import Fraction

from tests.asking import (FAR, MODULUS, REST, Model, Refused, ask, build, exact_rests, greatest_text, heat, last, least,
                          open_texts, outside, random_text, run, set_room, trace)
from warmrooms.exact import greatest_divisor, tell_ratio

ONE_ROOM = "room a 0 50\noutside o 0\nlink a o 3\nheater h a 5\n"


class Ratios(unittest.TestCase):
    def test_the_greatest_divisor(self):
        for first, second, divisor in ((12, 18, 6), (-12, 18, 6), (0, 7, 7), (7, 7, 7), (1, 9, 1), (-7, 1, 1),
                                       (35, 6, 1), (10 ** 30, 10 ** 20 * 7, 10 ** 20)):
            self.assertEqual(greatest_divisor(first, second), divisor)

    def test_ratios_are_rounded_down_and_their_denominators_least(self):
        self.assertEqual(tell_ratio(2, 3), [666666, 3])
        self.assertEqual(tell_ratio(-2, 3), [-666667, 3])
        self.assertEqual(tell_ratio(-4, 6), [-666667, 3])
        self.assertEqual(tell_ratio(0, 6), [0, 1])
        self.assertEqual(tell_ratio(-12, 6), [-2000000, 1])
        self.assertEqual(tell_ratio(1, MODULUS), [0, 0])
        self.assertEqual(tell_ratio(-1, MODULUS + 5), [-1, 5])
        self.assertEqual(tell_ratio(3, 3 * MODULUS), [0, 0])


class Rest(Refused):
    def test_as_warm_as_the_only_outside(self):
        for cap in (0, 10):
            self.assertEqual(last(build(f"room a {cap} 5\noutside o 8\nlink a o 64\n"), REST), [0, 8000000, 1])
        self.assertEqual(last(build("room a 1 5\noutside o -8\nlink o a 1\n"), REST), [0, -8000000, 1])

    def test_between_two_outsides(self):
        text = "room a 3 77\noutside o 0\noutside p 1\nlink a o 1\nlink p a 2\n"
        self.assertEqual(ask(build(text), REST, outside(2, -1), REST, outside(1, 2), REST, outside(1, 4), REST)[1::2],
                         [[0, 666666, 3], [0, -666667, 3], [0, 0, 1], [0, 666666, 3]])

    def test_levels_and_outsides_as_they_are_now(self):
        self.assertEqual(ask(build(ONE_ROOM), REST, heat(1, 1), REST, heat(1, 3), REST, outside(1, -64), REST)[1::2],
                         [[0, 0, 1], [0, 21333333, 3], [0, 64000000, 1], [0, 0, 1]])

    def test_through_other_rooms_alone(self):
        # 64 flow on from a to b and out: b is 64/3 above o, a 64/1 above b
        text = "room a 0 9\nroom b 0 9\noutside o 0\nlink a b 1\nlink o b 3\nheater h a 1\n"
        self.assertEqual(ask(build(text), REST, heat(1, 1), REST)[1::2],
                         [[0, 0, 1, 0, 1], [0, 85333333, 3, 21333333, 3]])

    def test_each_room_has_a_denominator_of_its_own(self):
        text = ("room a 0 0\nroom b 0 0\nroom c 0 0\noutside o 1\noutside p 0\nlink a o 1\nlink a p 1\n"
                "link b o 2\nlink b p 4\nlink c o 5\n")
        self.assertEqual(last(build(text), REST), [0, 500000, 2, 333333, 3, 1000000, 1])

    def test_it_hangs_on_no_temperature_of_rooms_no_capacity_and_no_clock(self):
        texts = [f"room a {cap} {warm}\nroom b {cap} 3\noutside o 5\noutside p -9\nlink a b 7\nlink a o 9\nlink p b 3\n"
                 for cap in (0, 10) for warm in (-100000, 4)]
        got = [last(build(text), *calls, REST) for text in texts for calls in ([], [run(1000)], [set_room(1, 99999)])]
        self.assertEqual(got, [Model(texts[0]).rest()] * len(got))

    def test_a_denominator_that_the_modulus_divides(self):
        # the denominator is what the products of two conductances each add up to, as this is prime
        near, middle, far = self.with_denominator(MODULUS)
        text = (f"room a 10 0\nroom b 10 0\noutside o 1\noutside p 0\n"
                f"link a o {near}\nlink a b {middle}\nlink b p {far}\n")
        got = last(build(text), REST)
        self.assertEqual([got[2], got[4]], [0, 0])
        self.assertEqual(got, Model(text).rest())

    def with_denominator(self, wanted):
        for near in range(20000, 20400):
            for middle in range(1, 65536 - near):
                far, left = divmod(wanted - near * middle, near + middle)
                if left == 0 and 0 < far <= 65536 - middle:
                    return near, middle, far
        raise AssertionError("no conductances with this denominator")

    def test_great_denominators(self):
        text = greatest_text()
        model = Model(text)
        self.assertGreater(min(x.denominator for x in model.rests()), MODULUS ** 4)
        self.assertEqual(last(build(text), REST), model.rest())

    def test_many_buildings(self):
        open_ones = 0
        for seed in range(60):
            dice = random.Random(seed)
            text = random_text(dice, dice.randint(1, 12), dice.randint(0, 4), dice.randint(0, 40), dice.randint(0, 8))
            model = Model(text)
            weather = [dice.randint(-100000, 100000) for name in model.outsides]
            weather += [dice.randint(0, model.most[name]) for name, room in model.heaters]
            model.set_weather(weather)
            count = len(model.outsides)
            calls = [outside(i + 1, weather[i]) for i in range(count)]
            calls += [heat(i + 1, weather[count + i]) for i in range(len(model.heaters))]
            self.assertEqual(last(build(text), *calls, REST), model.rest(), seed)
            open_ones += model.has_ways_out()
        self.assertTrue(15 < open_ones < 45, open_ones)

    def test_no_room_at_all(self):
        self.assertEqual(ask(REST, build(""), REST, build("outside o 3\n"), REST)[::2], [[0], [0], [0]])

    def test_no_way_to_an_outside(self):
        for text in ("room a 0 1\n", "room a 0 1\noutside o 1\n",
                     "room a 3 1\nroom b 3 1\noutside o 1\nlink a b 1\n",
                     "room a 3 1\nroom b 3 1\nroom c 3 1\noutside o 1\nlink a o 1\nlink b c 1\n",
                     "room a 3 1\nroom b 3 1\noutside o 1\nlink b o 1\n",
                     "room a 3 1\nroom b 3 1\nroom c 3 1\nroom d 3 1\noutside o 1\nlink a b 1\nlink b c 1\nlink a c 1\n"
                     "link d o 1\n"):
            self.refused(REST, -4, [build(text)])

    def test_a_long_way_to_the_outside(self):
        # told so that each room is linked to a room nearer to the outside only later, or only earlier
        chain = [f"link r{i} r{i + 1} {i + 3}\n" for i in range(11)]
        for row in (chain, chain[::-1], chain[::2] + chain[1::2]):
            for place in (0, 5, 11):
                text = "".join(f"room r{i} 3 {i}\n" for i in range(12)) + "outside o -7\n"
                text += "".join(row) + "heater h r4 9\n"
                self.assertEqual(ask(build(text), REST)[1], [-4])
                text += f"link o r{place} 1\n"
                model = Model(text)
                model.levels["h"] = 5
                self.assertEqual(last(build(text), heat(1, 5), REST), model.rest())

    def test_it_changes_nothing(self):
        model = Model(self.TEXT)
        model.set_weather([6, -12, 12, 0])
        self.assertEqual(self.unchanged(REST), model.rest())


class OneRest(unittest.TestCase):
    def test_a_step_would_change_nothing_there(self):
        for text in open_texts(12, 5, 2, 14, 3):
            model = Model(text)
            model.set_weather([7, -3, 1, 0, 1])
            found = exact_rests(text, [7, -3], [1, 0, 1])
            for room, x in zip(model.rooms, found):
                model.warm[room] = x
            model.step()
            self.assertEqual([model.warm[room] for room in model.rooms], found)

    def test_a_building_set_at_its_rest_stays(self):
        # 2 * (36 - 16) is 16 - -24, and that is 2 * (-24 - -44)
        text = "room a 0 7\nroom b 3 9\noutside o 36\noutside p -44\nlink o a 2\nlink a b 1\nlink b p 2\n"
        got = ask(build(text), run(7), set_room(1, 16), set_room(2, -24), REST, run(990), trace(1), trace(2))
        self.assertEqual(got[4:], [[0, 16000000, 1, -24000000, 1], [0, 997], [0, 16000000, 0, 0], [0, -24000000, 0, 0]])

    def test_from_anywhere_a_building_comes_there(self):
        text = "room a 0 9\nroom b 1 9\noutside o 5\noutside p -6\nlink a o 20\nlink a b 30\nlink p b 30\n"
        aim = [Fraction(x, 1000000) for x in last(build(text), REST)[1::2]]
        for warm in (-100000, 0, 100000):
            got = ask(build(text), set_room(1, warm), set_room(2, -warm), run(1000), trace(1), trace(2))[4:]
            for (zero, temperature, inflow, heating), x in zip(got, aim):
                self.assertLessEqual(abs(temperature - x * 1000000), 1)


class Reciprocity(unittest.TestCase):
    def test_a_level_does_alike_both_ways_exactly(self):
        for text in open_texts(12, 6, 2, 16, 0):
            rooms = [f"r{i}" for i in range(6)]
            text += "".join(f"heater h{room} {room} 9\n" for room in rooms)
            plain = exact_rests(text, [55, -7], [0] * 6)
            gains = [[x - y for x, y in zip(exact_rests(text, [55, -7], [9 * (i == j) for j in range(6)]), plain)]
                     for i in range(6)]
            for i in range(6):
                for j in range(6):
                    self.assertEqual(gains[i][j], gains[j][i])
                    self.assertGreaterEqual(gains[i][j], 0)

    def test_a_level_does_alike_both_ways_as_answered(self):
        text = ("room a 0 1\nroom b 7 2\nroom c 10 3\noutside o 0\noutside p 0\nlink a b 5\nlink b c 90\nlink p c 300\n"
                "link a o 7\nheater h a 60000\nheater i c 60000\nheater j b 60000\n")
        heated = [ask(build(text), heat(heater, 59999), REST)[2] for heater in (1, 3, 2)]
        for i in range(3):
            for j in range(3):
                self.assertEqual(heated[i][1 + 2 * j:3 + 2 * j], heated[j][1 + 2 * i:3 + 2 * i])
        self.assertNotEqual(heated[0][1], heated[0][3])


class Least(Refused):
    def test_ordinary(self):
        # the room rests at 64/3 for each level
        for temperature, level in ((64, 3), (63, 3), (43, 3), (42, 2), (22, 2), (21, 1), (1, 1), (106, 5)):
            self.assertEqual(last(build(ONE_ROOM), least(1, 1, temperature)), [0, level], temperature)

    def test_however_little_is_lacking(self):
        # the room rests at 1/2, at 1 and at 1/200 below 1
        for warm, conductance, level in ((1, 1, 1), (2, 1, 0), (1, 199, 1)):
            text = (f"room a 10 50\noutside o 0\noutside p {warm}\nlink a o 1\nlink a p {conductance}\n"
                    f"heater h a 5\n")
            self.assertEqual(last(build(text), least(1, 1, 1)), [0, level])

    def test_none_at_all(self):
        for temperature in (0, -1, -100000):
            self.assertEqual(last(build(ONE_ROOM), least(1, 1, temperature)), [0, 0])

    def test_its_most_and_one_more_than_that(self):
        text = "room a 0 50\noutside o 0\nlink a o 64\nheater h a 5\nheater i a 1000000\n"
        self.assertEqual(ask(build(text), least(1, 1, 5), least(1, 1, 6), least(1, 1, 4), least(2, 1, 100000))[1:],
                         [[0, 5], [-5], [0, 4], [0, 100000]])
        self.refused(least(1, 1, 6), -5, [build(text)])
        self.refused(least(1, 1, 100000), -5, [build(text)])
        self.assertEqual(last(build(ONE_ROOM), least(1, 1, 107)), [-5])

    def test_its_own_level_counts_no_more_but_all_else_does(self):
        text = "room a 1 50\nroom b 3 9\noutside o 0\nlink a o 64\nlink b a 1\nheater h a 50\nheater i b 50\n"
        for level in (0, 7, 50):
            got = ask(build(text), heat(1, level), least(1, 1, 20), heat(2, 6), least(1, 1, 20), outside(1, 10),
                      least(1, 1, 20), outside(1, -30), least(1, 1, 20), least(1, 1, 26), least(1, 1, 27), heat(1, 0))
            self.assertEqual([got[2], got[4], got[6]] + got[8:11], [[0, 20], [0, 14], [0, 4], [0, 44], [0, 50], [-5]])

    def test_a_heater_in_another_room(self):
        # each level in a warms b, the room on the way out, by 64/3 too
        text = "room a 0 9\nroom b 0 9\noutside o 1\nlink a b 1\nlink o b 3\nheater h a 4\n"
        self.assertEqual(ask(build(text), least(1, 2, 43), least(1, 2, 44), least(1, 1, 86), least(1, 1, 87))[1:],
                         [[0, 2], [0, 3], [0, 1], [0, 2]])

    def test_a_heater_that_makes_no_difference(self):
        text = ("room a 0 9\nroom b 0 9\noutside o 5\noutside p 5\nlink a o 3\nlink b o 7\nlink p b 2\n"
                "heater h b 1000000\n")
        self.assertEqual(ask(build(text), least(1, 1, 5), least(1, 1, 4), least(1, 1, 6), least(1, 2, 6))[1:],
                         [[0, 0], [0, 0], [-5], [0, 1]])
        self.refused(least(1, 1, 6), -5, [build(text)])

    def test_rests_below_zero(self):
        text = "room a 0 50\noutside o -100\nlink a o 3\nheater h a 5\n"
        self.assertEqual(ask(build(text), *[least(1, 1, t) for t in (-100, -99, -79, -78, -58, -57, 6, 7)])[1:],
                         [[0, 0], [0, 1], [0, 1], [0, 2], [0, 2], [0, 3], [0, 5], [-5]])

    def test_many_buildings(self):
        found = refused = 0
        for text in open_texts(12, 5, 2, 14, 4):
            model = Model(text)
            dice = random.Random(text)
            model.set_weather([dice.randint(-100000, 0) for name in model.outsides]
                              + [dice.randint(0, model.most[name] // 50) for name, room in model.heaters])
            calls = [outside(i + 1, x) for i, x in enumerate(model.weather()[:2])]
            calls += [heat(i + 1, x) for i, x in enumerate(model.weather()[2:])]
            for turn in range(8):
                asked = dice.randint(1, 4), dice.randint(1, 5), dice.randint(-100000, 100000)
                due = model.least(*asked)
                self.assertEqual(last(build(text), *calls, least(*asked)), due)
                found += due[0] == 0 and due[1] > 0
                refused += due[0] == -5
        self.assertGreater(found, 20)
        self.assertGreater(refused, 5)

    def test_with_that_level_it_is_warm_enough_and_with_one_less_not(self):
        text = greatest_text()
        unheated = last(build(text), REST)[1::2]
        for heater, room in ((1, 1), (8, 12), (3, 7)):
            temperature = unheated[room - 1] // 1000000 + 1000
            answer, level = last(build(text), least(heater, room, temperature))
            self.assertEqual(answer, 0)
            self.assertGreater(level, 0)
            self.assertGreaterEqual(last(build(text), heat(heater, level), REST)[2 * room - 1], temperature * 1000000)
            self.assertLess(last(build(text), heat(heater, level - 1), REST)[2 * room - 1], temperature * 1000000)

    def test_no_such_heater_or_room(self):
        for number in (0, 3, -1, -2, FAR, -FAR):
            self.refused(least(number, 1, 0), -1)
            self.refused(least(1, number, 0), -1)
            self.refused(least(number, number, 0), -1)
        self.assertEqual(ask(least(1, 1, 0), build("room a 0 1\n"), least(1, 1, 0)), [[-1], [0, 1, 0, 0, 0], [-1]])

    def test_no_such_temperature(self):
        for temperature in (100001, -100001, FAR, -FAR):
            self.refused(least(1, 1, temperature), -2)

    def test_no_way_to_an_outside(self):
        # neither the heater's room nor the one asked of is the one without a way
        text = "room a 0 1\nroom b 0 1\noutside o 1\nlink a o 1\nheater h a 9\n"
        for temperature in (-100000, 1, 100000):
            self.refused(least(1, 1, temperature), -4, [build(text)])

    def test_several_at_once(self):
        closed = [build("room a 0 1\nroom b 0 1\nlink a b 3\nheater h a 9\n")]
        self.refused(least(3, 1, 100001), -1)
        self.refused(least(1, 3, 100001), -1)
        self.refused(least(2, 1, 100001), -1, closed)
        self.refused(least(1, 3, 1), -1, closed)
        self.refused(least(1, 1, 100001), -2, closed)
        self.refused(least(1, 1, -100001), -2, closed)
        # even its most would not do, were there a rest at all
        self.refused(least(1, 1, 100000), -4, closed)
        self.refused(least(1, 1, 100000), -5)

    def test_it_changes_nothing(self):
        self.assertEqual(self.unchanged(least(2, 2, 1000))[0], 0)
        self.assertEqual(self.unchanged(least(1, 1, -100)), [0, 0])


if __name__ == "__main__":
    unittest.main()
