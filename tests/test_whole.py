"""The whole program: lists of all calls mixed, beside the model, and the greatest buildings with the longest runs."""

import random
import unittest

from tests.asking import (BOOKS, CLOCK, FAR, REST, Model, ask, bracket, build, greatest_text, halve, heat, last, latest,
                          least, outside, random_text, run, set_room, settle, trace)

SEEKING = (10, 11, 12, 13)


class Player:
    """Makes up calls, refused ones among them, and tells by the model what each should answer."""

    def __init__(self, seed):
        self.dice = random.Random(seed)
        self.calls, self.due = [], []
        self.seeking = 0
        self.model = Model("")

    def number_of(self, things):
        if self.dice.randint(0, 7) == 0:
            return self.dice.choice((0, -1, len(things) + 1, FAR, -FAR))
        return self.dice.randint(1, max(1, len(things)))

    def number_from(self, low, high):
        if self.dice.randint(0, 9) == 0:
            return self.dice.choice((low - 1, high + 1, FAR, -FAR))
        return self.dice.choice((low, high, self.dice.randint(low, high), self.dice.randint(low, high)))

    def temperature(self):
        return self.number_from(-100000, 100000)

    def weather(self):
        if self.dice.randint(0, 9) == 0:
            return [self.temperature() for number in range(self.dice.randint(0, 20))]
        heaters = [self.number_from(0, self.model.most[name]) for name, room in self.model.heaters]
        return [self.temperature() for name in self.model.outsides] + heaters

    def take(self, call, due):
        self.calls.append(call)
        self.due.append(due)

    def take_build(self):
        dice = self.dice
        outsides = dice.randint(0, 3)
        text = random_text(dice, dice.randint(1, 5), outsides, dice.randint(0, 12), dice.randint(0, 3),
                           caps=(0, 1, 3, 10))
        self.model = Model(text)
        self.take(build(text), [0, len(self.model.rooms), outsides, len(self.model.links), len(self.model.heaters)])

    def take_change(self, things, call, low, high, change):
        """A call that gives one of the things a number."""
        number = self.number_of(things)
        if not 1 <= number <= len(things):
            return self.take([call, number, self.number_from(-FAR + 1, FAR - 1)], [-1])
        value = self.number_from(low(things[number - 1]), high(things[number - 1]))
        if not low(things[number - 1]) <= value <= high(things[number - 1]):
            return self.take([call, number, value], [-2])
        change(number, value)
        return self.take([call, number, value], [0])

    def take_run(self):
        steps = self.dice.choice((0, 1, 1, 2, 3, 4, 1001, 1000))
        due = [0, self.model.clock + steps]
        if not 1 <= steps <= 1000:
            due = [-2]
        elif self.model.clock + steps > 1000:
            due = [-3]
        elif steps == 1000:
            return
        else:
            for step in range(steps):
                self.model.step()
        self.take(run(steps), due)

    def take_seek(self):
        if self.seeking == 8:
            return
        self.seeking += 1
        dice, model = self.dice, self.model
        kind = dice.choice(SEEKING)
        if kind == 10:
            asked = self.number_from(0, 100000), dice.choice((-1, 0, 3, 12, 1001))
            self.take(settle(*asked), model.settle(*asked))
        elif kind == 11:
            steps = dice.choice((-1, 0, 3, 12, 1001))
            self.take(halve(steps), model.halve(steps))
        elif kind == 12:
            asked = dice.choice((-1, 0, 1, 5, 1001)), self.weather(), self.weather()
            if dice.randint(0, 1) and len(asked[1]) == len(asked[2]):
                asked = (asked[0], [min(pair) for pair in zip(asked[1], asked[2])],
                         [max(pair) for pair in zip(asked[1], asked[2])])
            self.take(bracket(*asked), model.bracket(*asked))
        else:
            asked = self.number_of(model.rooms), self.temperature(), dice.choice((-1, 0, 1, 4, 9, 61))
            self.take(latest(*asked), model.latest(*asked))

    def take_least(self):
        asked = self.number_of(self.model.heaters), self.number_of(self.model.rooms), self.temperature()
        self.take(least(*asked), self.model.least(*asked))

    def take_any(self):
        model = self.model
        turn = self.dice.randint(0, 19)
        if turn == 0:
            self.take_build()
        elif turn < 3:
            self.take_change(model.outsides, 2, lambda name: -100000, lambda name: 100000, self.weather_to)
        elif turn < 5:
            self.take_change(model.heaters, 3, lambda heater: 0, lambda heater: model.most[heater[0]], self.level_to)
        elif turn < 8:
            self.take_change(model.rooms, 15, lambda name: -100000, lambda name: 100000, model.set_room)
        elif turn < 11:
            self.take_run()
        elif turn < 14:
            self.take_seek()
        elif turn < 16:
            self.take_least()
        else:
            for call, due in list(zip(model.look_calls(), model.looks())):
                if self.dice.randint(0, 2) == 0:
                    self.take(call, due)

    def weather_to(self, number, value):
        self.model.set_weather(self.model.weather()[:number - 1] + [value] + self.model.weather()[number:])

    def level_to(self, number, value):
        self.model.levels[self.model.heaters[number - 1][0]] = value


class Mixed(unittest.TestCase):
    def test_lists_of_all_calls_answer_as_the_model_does(self):
        kinds = {}
        for seed in range(60):
            player = Player(seed)
            player.take_build()
            while len(player.calls) < 60:
                player.take_any()
            answered = ask(*player.calls)
            for place, (call, answer, due) in enumerate(zip(player.calls, answered, player.due)):
                self.assertEqual(answer, due, (seed, place, call))
                kinds[call[0], answer[0]] = kinds.get((call[0], answer[0]), 0) + 1
        # each call has been answered, and refused for each of its reasons
        for call, whys in ((2, (0, -1, -2)), (3, (0, -1, -2)), (4, (0, -2, -3)), (9, (0, -4)), (10, (0, -2, -4)),
                           (11, (0, -2)), (12, (0, -2)), (13, (0, -1, -2, -5)), (14, (0, -1, -2, -4, -5)),
                           (15, (0, -1, -2)), (16, (0,))):
            for why in whys:
                self.assertGreater(kinds.get((call, why), 0), 0, (call, why))


class Greatest(unittest.TestCase):
    WEATHER = [-100000, 99999, -1, 100000]
    NOW = [outside(i + 1, x) for i, x in enumerate(WEATHER)] + [heat(i + 1, 999999 - i) for i in range(8)]

    def test_it_is_the_greatest(self):
        self.assertEqual(ask(build(greatest_text())), [[0, 12, 4, 40, 8]])

    def test_few_steps_by_the_model(self):
        text = greatest_text()
        model = Model(text)
        model.set_weather(self.WEATHER + [999999 - i for i in range(8)])
        start = [build(text)] + self.NOW
        self.assertEqual(last(*start, bracket(12, model.weather(), model.weather())),
                         model.bracket(12, model.weather(), model.weather()))
        self.assertEqual(last(*start, settle(100000, 12)), model.settle(100000, 12))
        self.assertEqual(last(*start, latest(1, -40000, 8)), model.latest(1, -40000, 8))
        self.assertEqual(last(*start, REST), model.rest())

    def test_the_longest_runs(self):
        text = greatest_text(near=900, out=3000)
        weather = self.WEATHER + [999999 - i for i in range(8)]
        looks = [trace(room) for room in range(1, 13)]
        start = [build(text)] + self.NOW
        got = ask(*start, REST, bracket(1000, weather, weather), settle(3, 1000), settle(0, 1000), halve(1000),
                  latest(7, -50000, 60), CLOCK, run(1000), CLOCK, *looks, BOOKS)[13:]
        rest, ahead, settled, never, halved, started = got[:6]
        warm = [row[1] for row in got[9:21]]
        self.assertEqual(ahead, [0] + [x for x in warm for end in range(2)])
        self.assertEqual((settled[:2], never, halved[:2]), ([0, 1], [0, 0], [0, 1]))
        self.assertEqual([got[6][1], got[8][1]], [0, 1000])
        self.assertEqual(got[21][4], 1000 * sum(weather[4:]))
        for steps, near in ((settled[2], True), (settled[2] - 1, False)):
            warm = [row[1] for row in ask(*start, run(steps), *looks)[-12:]]
            off = max(abs(x - y) for x, y in zip(warm, rest[1::2]))
            self.assertEqual(off <= 3000000, near)
        self.assertGreater(settled[2], 2 * halved[2])

    def test_the_latest_start_of_sixty(self):
        text = greatest_text(near=900, out=3000)
        for room, temperature in ((7, -7200), (12, 24385), (1, 46371), (10, 2000)):
            answer, unheated = last(build(text), latest(room, temperature, 60))
            self.assertEqual(answer, 0)
            self.assertTrue(0 < unheated < 60, unheated)
            most = [heat(i, 1000000) for i in range(1, 9)]
            warm = last(build(text), run(unheated), *most, run(60 - unheated), trace(room))[1]
            cold = last(build(text), run(unheated + 1), *most, *[run(59 - unheated)] * (unheated < 59), trace(room))[1]
            self.assertGreaterEqual(warm, temperature * 1000000)
            self.assertLess(cold, temperature * 1000000)

    def test_from_the_end_of_the_clock_on(self):
        text = greatest_text(near=9, out=4)
        bounds = [-100000] * 4 + [0] * 8, [100000] * 4 + [1000000] * 8
        got = ask(build(text), *self.NOW, run(1000), *[bracket(1000, *bounds)] * 3, settle(0, 1000), settle(1, 1000),
                  halve(1000), latest(3, 90000, 60), latest(3, -99999, 60), run(1), CLOCK)[13:]
        self.assertEqual(got[0], [0, 1000])
        self.assertEqual(got[1], got[3])
        self.assertEqual((got[4], got[6], got[9], got[10][:2]), ([0, 0], [0, 0], [-3], [0, 1000]))
        self.assertTrue(all(low <= high for low, high in zip(got[1][1::2], got[1][2::2])))


if __name__ == "__main__":
    unittest.main()
