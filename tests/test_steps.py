"""Steps: exact temperatures, what a room holds, given, gone, and how numbers are told."""

import random
import unittest
from fractions import Fraction

from tests.asking import (BOOKS, MODULUS, Model, ask, build, flow, heat, last, millionths, outside, random_text,
                          residue, run, set_room, temp, told, trace, untold)
from warmrooms.exact import tell_exactly, tell_millionths
from warmrooms.plan import Plan
from warmrooms.texts import take_text
from warmrooms.warmth import Net, Warmth


class ToldNumbers(unittest.TestCase):
    def test_whole_numbers(self):
        for whole in (0, 1, -1, 2, 64, -64, 100000, -100000):
            self.assertEqual(tell_exactly(whole, 0), [whole, 0, whole % MODULUS])
            self.assertEqual(tell_exactly(whole << 50, 50), [whole, 0, whole % MODULUS])

    def test_fractions_are_told_in_least_terms(self):
        self.assertEqual(tell_exactly(3, 1), [1, 1, 3])
        self.assertEqual(tell_exactly(6, 2), [1, 1, 3])
        self.assertEqual(tell_exactly(5, 3), [0, 3, 5])
        self.assertEqual(tell_exactly(0, 77), [0, 0, 0])

    def test_below_zero_it_is_rounded_down(self):
        self.assertEqual(tell_exactly(-1, 1), [-1, 1, MODULUS - 1])
        self.assertEqual(tell_exactly(-3, 1), [-2, 1, MODULUS - 3])
        self.assertEqual(tell_exactly(-1, 60), [-1, 60, MODULUS - 1])
        self.assertEqual(tell_millionths(-1, 60), [-1])
        self.assertEqual(tell_millionths(1, 60), [0])
        self.assertEqual(tell_millionths(-1, 6), [-15625])
        self.assertEqual(tell_millionths(-1, 7), [-7813])
        self.assertEqual(tell_millionths(1, 7), [7812])

    def test_the_last_of_the_three_is_taken_modulo(self):
        self.assertEqual(tell_exactly(MODULUS, 0), [MODULUS, 0, 0])
        self.assertEqual(tell_exactly(MODULUS, 1), [MODULUS // 2, 1, 0])
        self.assertEqual(tell_exactly(2 * MODULUS + 1, 40), [0, 40, 1])

    def test_many_numbers(self):
        for whole in range(-70, 71):
            for power in range(9):
                x = Fraction(whole, 2 ** power)
                self.assertEqual(tell_exactly(whole, power), told(x))
                self.assertEqual(tell_millionths(whole, power), [millionths(x)])
                self.assertEqual(untold(tell_exactly(whole, power)), x)


class StepsByHand(unittest.TestCase):
    def test_a_room_alone_stays_as_it_is(self):
        self.assertEqual(ask(build("room a 3 -7\n"), run(1000), temp(1), trace(1), BOOKS)[1:],
                         [[0, 1000], [0, -7, 0, MODULUS - 7], [0, -7000000, 0, 0], [0, -56, 0, MODULUS - 56, 0]])

    def test_half_the_way_to_an_outside(self):
        text = "room a 0 0\noutside o 8\nlink a o 32\n"
        got = ask(build(text), run(1), temp(1), run(1), temp(1), run(1), temp(1), run(1), temp(1), BOOKS)
        self.assertEqual(got[2::2], [[0, 4, 0, 4], [0, 6, 0, 6], [0, 7, 0, 7], [0, 7, 1, 15]])
        self.assertEqual(got[9], [0, 7, 1, 15, 0, -8, 1, MODULUS - 15])

    def test_all_the_way_at_once(self):
        text = "room a 0 5\noutside o 8\nlink a o 64\n"
        self.assertEqual(ask(build(text), run(1), temp(1), BOOKS, run(999), temp(1), BOOKS)[2:],
                         [[0, 8, 0, 8], [0, 8, 0, 8, 0, -3, 0, MODULUS - 3],
                          [0, 1000], [0, 8, 0, 8], [0, 8, 0, 8, 0, -3, 0, MODULUS - 3]])

    def test_two_rooms_from_the_temperatures_before_the_step(self):
        # F of a is 16/64 * (12 - 0) = 3, its capacity 1; b's capacity is 2: 12 - 3/2 is 21/2
        text = "room a 0 0\nroom b 1 12\nlink a b 16\n"
        self.assertEqual(ask(build(text), trace(1), trace(2), flow(1), run(1), temp(1), temp(2), BOOKS)[1:],
                         [[0, 0, 3000000, 0], [0, 12000000, -3000000, 0], [0, -3000000], [0, 1],
                          [0, 3, 0, 3], [0, 10, 1, 21], [0, 24, 0, 24, 0]])

    def test_three_rooms_in_a_row(self):
        # a and c move at once: b's F is 8/64 * (8 - 0) + 24/64 * (-16 - 0) = 1 - 6
        text = "room a 0 8\nroom b 0 0\nroom c 0 -16\nlink a b 8\nlink c b 24\n"
        self.assertEqual(ask(build(text), run(1), temp(1), temp(2), temp(3), flow(1), flow(2))[2:],
                         [[0, 7, 0, 7], [0, -5, 0, MODULUS - 5], [0, -10, 0, MODULUS - 10],
                          [0, 1500000], [0, -1875000]])

    def test_heaters_over_capacities(self):
        text = "room a 0 0\nroom b 10 0\nheater h a 5\nheater i b 5\nheater j b 9\n"
        got = ask(build(text), heat(1, 5), heat(2, 3), heat(3, 4), trace(1), trace(2), run(1), temp(1), temp(2), BOOKS)
        self.assertEqual(got[4:], [[0, 0, 0, 5], [0, 0, 0, 7], [0, 1], [0, 5, 0, 5], [0, 0, 10, 7],
                                   [0, 12, 0, 12, 12]])

    def test_capacities_at_both_ends_of_their_range(self):
        text = "room a 0 0\nroom b 10 1024\noutside o -64\nlink a b 1\nlink a o 1\n"
        # a: (1024 - 64)/64 = 15; b: 1024 - 16/1024
        self.assertEqual(ask(build(text), run(1), temp(1), temp(2), trace(2), BOOKS)[2:],
                         [[0, 15, 0, 15], [0, 1023, 6, 65535], [0, 1023984375, -15765381, 0],
                          [0, 1024 * 1024 - 1, 0, 1024 * 1024 - 1, 0, 1, 0, 1]])

    def test_negative_temperatures_are_rounded_down(self):
        text = "room a 0 0\noutside o -1\nlink a o 1\n"
        self.assertEqual(ask(build(text), flow(1), trace(1), run(1), temp(1), trace(1), BOOKS, flow(1))[1:],
                         [[0, 15625], [0, 0, -15625, 0], [0, 1], [0, -1, 6, MODULUS - 1],
                          [0, -15625, -15381, 0], [0, -1, 6, MODULUS - 1, 0, 0, 6, 1], [0, 15380]])

    def test_links_told_from_either_end(self):
        for line, sign in (("link a o 16", 1), ("link o a 16", -1)):
            text = "room a 1 20\noutside o 4\n" + line + "\n"
            self.assertEqual(ask(build(text), flow(1), run(1), temp(1), BOOKS)[1:],
                             [[0, sign * 4000000], [0, 1], [0, 18, 0, 18], [0, 36, 0, 36, 0, 4, 0, 4]])

    def test_a_building_told_in_any_order(self):
        mixed = ("outside o 4\nroom a 1 20\nlink o a 16\nheater h a 9\noutside p 0\nroom b 2 8\n"
                 "link p b 4\nlink b a 8\n")
        model = Model(mixed)
        model.levels["h"] = 7
        for step in range(3):
            model.step()
        self.assertEqual(ask(build(mixed), heat(1, 7), run(3), *model.look_calls())[3:], model.looks())

    def test_an_outside_counts_as_it_is_now(self):
        text = "room a 0 0\noutside o 8\nlink a o 32\n"
        got = ask(build(text), outside(1, -8), trace(1), flow(1), run(1), temp(1), outside(1, 4), run(1), temp(1),
                  BOOKS)
        self.assertEqual(got[2:], [[0, 0, -4000000, 0], [0, 4000000], [0, 1], [0, -4, 0, MODULUS - 4], [0], [0, 2],
                                   [0, 0, 0, 0], [0, 0, 0, 0, 0, 0, 0, 0]])

    def test_gone_is_counted_for_each_outside(self):
        text = "room a 1 32\nroom b 1 -32\noutside o 0\noutside p 0\noutside q 5\nlink a o 2\nlink p b 4\nlink b o 6\n"
        self.assertEqual(ask(build(text), run(1), BOOKS)[2],
                         [0, 4, 0, 4, 0, -2, 0, MODULUS - 2, -2, 0, MODULUS - 2, 0, 0, 0])


class RunsInParts(unittest.TestCase):
    TEXT = ("room a 0 100000\nroom b 10 -100000\nroom c 5 17\noutside o -40\noutside p 33\n"
            "link a b 21\nlink b c 999\nlink c o 3\nlink p a 40\nheater h c 12345\nheater i a 7\n")
    LOOKS = [temp(1), temp(2), temp(3), trace(1), trace(2), trace(3), BOOKS, flow(1), flow(2), flow(3), flow(4)]

    def test_a_thousand_steps_at_once_and_in_parts(self):
        start = [build(self.TEXT), heat(1, 12345), heat(2, 3)]
        whole = ask(*start, run(1000), *self.LOOKS)[4:]
        for parts in ((1, 999), (999, 1), (500, 500), (1, 2, 3, 4, 90, 900), (100,) * 10):
            got = ask(*start, *[run(n) for n in parts], *self.LOOKS)
            self.assertEqual(got[2 + len(parts)], [0, 1000])
            self.assertEqual(got[3 + len(parts):], whole, parts)

    def test_looking_on_changes_nothing(self):
        start = [build(self.TEXT), heat(1, 12345), heat(2, 3)]
        looked = ask(*start, run(7), *self.LOOKS, run(8), *self.LOOKS)
        self.assertEqual(looked[-11:], ask(*start, run(15), *self.LOOKS)[-11:])

    def test_a_thousand_steps_by_the_model(self):
        text = "room a 0 100\nroom b 3 -7\noutside o -40\nlink a b 21\nlink b o 9\nheater h a 12\n"
        model = Model(text)
        model.levels["h"] = 11
        for step in range(1000):
            model.step()
        self.assertEqual(ask(build(text), heat(1, 11), run(1000), *model.look_calls())[3:], model.looks())
        # so many twos lie below a thousand steps' temperatures
        self.assertGreater(last(build(text), run(1000), temp(1))[2], 6000)


class ManyBuildings(unittest.TestCase):
    def play(self, seed):
        """A building and what is done with it, beside the model of it."""
        dice = random.Random(seed)
        text = random_text(dice, dice.randint(1, 12), dice.randint(0, 4), dice.randint(0, 40), dice.randint(0, 8))
        model = Model(text)
        calls = [build(text)] + model.look_calls()
        expected = [[0, len(model.rooms), len(model.outsides), len(model.links), len(model.heaters)]] + model.looks()
        for turn in range(3):
            for i, name in enumerate(model.outsides):
                model.warm[name] = Fraction(dice.randint(-100000, 100000))
                calls.append(outside(i + 1, int(model.warm[name])))
                expected.append([0])
            for i, (name, room) in enumerate(model.heaters):
                model.levels[name] = dice.randint(0, model.most[name])
                calls.append(heat(i + 1, model.levels[name]))
                expected.append([0])
            steps = dice.randint(1, 6)
            for step in range(steps):
                model.step()
            calls += [run(steps)] + model.look_calls()
            expected += [[0, model.clock]] + model.looks()
        self.assertEqual(ask(*calls[:199]), expected[:199], seed)

    def test_they_answer_as_the_model_does(self):
        for seed in range(40):
            self.play(seed)


class Conservation(unittest.TestCase):
    def play(self, seed, steps):
        """The books at first, and after each of many runs, with weather and levels changed between."""
        dice = random.Random(seed)
        text = random_text(dice, 6, 3, 18, 4)
        model = Model(text)
        calls = [build(text), BOOKS]
        while len(calls) < 180:
            calls.append(outside(dice.randint(1, 3), dice.randint(-100000, 100000)))
            heater = dice.randint(1, 4)
            calls.append(heat(heater, dice.randint(0, model.most[f"h{heater - 1}"])))
            calls += [run(dice.randint(1, steps)), BOOKS]
        return [answer for call, answer in zip(calls, ask(*calls)) if call == BOOKS]

    def test_books_balance_exactly_over_many_steps(self):
        for seed in range(6):
            books = self.play(seed, 22)
            at_first = residue(books[0][1:4])
            for row in books[1:]:
                there = sum(residue(row[place:place + 3]) for place in (1, 5, 8, 11))
                self.assertEqual((there - row[4] - at_first) % MODULUS, 0, seed)
                floors = row[1] + row[5] + row[8] + row[11]
                self.assertTrue(0 <= books[0][1] + row[4] - floors < 4, seed)

    def test_books_balance_anew_behind_each_set(self):
        for seed in range(6):
            dice = random.Random(seed)
            text = random_text(dice, 6, 3, 18, 4)
            model = Model(text)
            calls = [build(text)]
            while len(calls) < 190:
                if dice.randint(0, 3) == 0:
                    calls += [set_room(dice.randint(1, 6), dice.randint(-100000, 100000)), BOOKS]
                heater = dice.randint(1, 4)
                calls += [heat(heater, dice.randint(0, model.most[f"h{heater - 1}"])), run(dice.randint(1, 15)), BOOKS]
            at_first = None
            for call, before, books in zip(calls[1:], calls, ask(*calls)[1:]):
                if call == BOOKS and before[0] == 15:
                    self.assertEqual(books[4:], [0] * 10)
                    at_first = books
                if call == BOOKS and at_first:
                    there = sum(residue(books[place:place + 3]) for place in (1, 5, 8, 11))
                    self.assertEqual((there - books[4] - residue(at_first[1:4])) % MODULUS, 0, seed)
                    floors = books[1] + books[5] + books[8] + books[11]
                    self.assertTrue(0 <= at_first[1] + books[4] - floors < 4, seed)

    def test_books_balance_as_fractions(self):
        text = "room a 0 900\nroom b 1 -33\noutside o 40\noutside p 7\nlink a b 8\nlink a o 16\nlink p b 4\nheater h b 9\n"
        calls = [build(text)]
        for turn in range(4):
            calls += [outside(1, 10 * turn - 17), heat(1, 2 * turn), run(1), BOOKS]
        for books in ask(*calls)[4::4]:
            held, given = untold(books[1:4]), books[4]
            gone = untold(books[5:8]) + untold(books[8:11])
            self.assertEqual(held + gone, 900 - 66 + given)

    def test_each_step_balances_as_whole_numbers(self):
        text = random_text(random.Random(5), 12, 4, 40, 8)
        plan = Plan()
        self.assertEqual(take_text(plan, list(text.encode())), [])
        net = Net(plan)
        warmth = Warmth([temperature for name, cap, temperature in plan.rooms], 4)
        levels = [most // 3 for name, room, most in plan.heaters]
        at_first, given, since = warmth.held(net), 0, 0
        for step in range(1, 301):
            warmth.make_step(net, [step, -step * step, 100000, -100000], net.gifts(levels))
            given += sum(levels)
            self.assertEqual(warmth.held(net) + sum(warmth.gone), (at_first << (warmth.power - since))
                             + (given << warmth.power))
            if step == 150:
                warmth.set_room(3, -5)
                warmth.forget_gone()
                at_first, given, since = warmth.held(net), 0, warmth.power
                self.assertEqual(warmth.gone, [0] * 4)


class Order(unittest.TestCase):
    def test_what_is_nowhere_colder_stays_nowhere_colder(self):
        for seed in range(10):
            dice = random.Random(seed)
            text = random_text(dice, 5, 2, 14, 3)
            cold, warm = Model(text), Model(text)
            cold_calls, warm_calls = [build(text)], []
            lines = []
            for line in text.splitlines():
                words = line.split(" ")
                if words[0] in ("room", "outside"):
                    words[-1] = str(min(100000, int(words[-1]) + dice.choice((0, 0, 1, 5000))))
                lines.append(" ".join(words) + "\n")
            warm_calls = [build("".join(lines))]
            for turn in range(15):
                for i in (1, 2):
                    low, high = sorted((dice.randint(-100000, 100000), dice.randint(-100000, 100000)))
                    cold_calls.append(outside(i, low))
                    warm_calls.append(outside(i, high))
                for i in (1, 2, 3):
                    low, high = sorted(dice.randint(0, cold.most[f"h{i - 1}"]) for end in range(2))
                    cold_calls.append(heat(i, low))
                    warm_calls.append(heat(i, high))
                for calls in (cold_calls, warm_calls):
                    calls += [run(1)] + [trace(room) for room in range(1, 6)]
            colder, warmer = ask(*cold_calls), ask(*warm_calls)
            for call, below, above in zip(cold_calls, colder, warmer):
                if call[0] == 6:
                    self.assertLessEqual(below[1], above[1], seed)


if __name__ == "__main__":
    unittest.main()
