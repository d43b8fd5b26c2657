"""What the tests share: calls written shortly, answers parted, buildings, and a slow model in fractions."""

import random
import unittest
from fractions import Fraction
from math import floor

from warmrooms.building import answers
from warmrooms.house import House
from warmrooms.plan import Plan
from warmrooms.rest import rests
from warmrooms.texts import take_text

MODULUS = 1000000007

FAR = 1000000000

PRINT = [1]
BOOKS = [7]
REST = [9]
CLOCK = [16]


def build(text):
    if isinstance(text, str):
        text = text.encode("latin-1")
    return [0, len(text)] + list(text)


def outside(number, temperature):
    return [2, number, temperature]


def heat(number, level):
    return [3, number, level]


def run(steps):
    return [4, steps]


def temp(room):
    return [5, room]


def trace(room):
    return [6, room]


def flow(link):
    return [8, link]


def settle(nearness, steps):
    return [10, nearness, steps]


def halve(steps):
    return [11, steps]


def bracket(steps, lower, upper):
    return [12, steps, len(lower)] + lower + [len(upper)] + upper


def latest(room, temperature, steps):
    return [13, room, temperature, steps]


def least(heater, room, temperature):
    return [14, heater, room, temperature]


def set_room(room, temperature):
    return [15, room, temperature]


def flat(calls):
    return [number for call in calls for number in call]


def part(row):
    """The answers that stand in a row one behind the other, each as a list."""
    parted = []
    place = 0
    while place < len(row):
        end = place + 1 + row[place]
        if row[place] < 1 or end > len(row):
            raise AssertionError(f"no answer of {row[place]} numbers at {place}")
        parted.append(row[place + 1:end])
        place = end
    return parted


def ask(*calls):
    """The answers to these calls, a list for each."""
    parted = part(answers(flat(calls)))
    if len(parted) != len(calls):
        raise AssertionError(f"{len(parted)} answers to {len(calls)} calls")
    return parted


def last(*calls):
    return ask(*calls)[-1]


def told(x):
    """How the document tells an exact number."""
    x = Fraction(x)
    power = 0
    while (x * 2 ** power).denominator != 1:
        power += 1
    return [floor(x), power, int(x * 2 ** power) % MODULUS]


def millionths(x):
    return floor(Fraction(x) * 1000000)


def untold(three):
    """The exact number that is told by three, of which no more than 29 twos lie below."""
    whole, power, rest = three
    if power > 29:
        raise AssertionError("too many twos to tell the number")
    return whole + Fraction((rest - (whole << power)) % MODULUS, 2 ** power)


def residue(three):
    """The number that is told by three, modulo MODULUS."""
    return three[2] * pow(pow(2, -1, MODULUS), three[1], MODULUS) % MODULUS


def random_text(dice, rooms, outsides, links, heaters, caps=(0, 0, 1, 2, 5, 9, 10)):
    """A building all of whose rooms are steady."""
    names = [f"r{i}" for i in range(rooms)] + [f"o{i}" for i in range(outsides)]
    lines, spare = [], {}
    for name in names[:rooms]:
        cap = dice.choice(caps)
        spare[name] = 64 * 2 ** cap
        lines.append(f"room {name} {cap} {dice.randint(-100000, 100000)}")
    for name in names[rooms:]:
        spare[name] = 100000
        lines.append(f"outside {name} {dice.randint(-100000, 100000)}")
    pairs = [(names[i], names[j]) for i in range(rooms) for j in range(i + 1, len(names))]
    for first, second in dice.sample(pairs, min(links, len(pairs))):
        most = min(spare[first], spare[second])
        if most > 0:
            conductance = dice.randint(1, max(1, most // dice.choice((1, 3, 9))))
            spare[first] -= conductance
            spare[second] -= conductance
            first, second = dice.sample((first, second), 2)
            lines.append(f"link {first} {second} {conductance}")
    for i in range(heaters):
        lines.append(f"heater h{i} {dice.choice(names[:rooms])} {dice.randint(1, 1000000)}")
    return "".join(line + "\n" for line in lines)


def greatest_text(near=9001, out=10000):
    """As many rooms, outsides, links and heaters as may be told, all rooms linked alike to six, four to an outside."""
    names = "abcdefghijkl"
    lines = [f"room {name} 10 {place * 18000 - 100000}" for place, name in enumerate(names)]
    lines += [f"outside o{i} {100000 - 60000 * i}" for i in range(4)]
    for apart in (1, 2, 3):
        lines += [f"link {names[i]} {names[(i + apart) % 12]} {near - i * apart % 7}" for i in range(12)]
    lines += [f"link o{i} {names[3 * i]} {out - i}" for i in range(4)]
    lines += [f"heater h{i} {names[i + 4]} 1000000" for i in range(8)]
    return "".join(line + "\n" for line in lines)


class Model:
    """A building in fractions, stepped room by room just as the document words it."""

    def __init__(self, text):
        self.rooms, self.outsides, self.links, self.heaters = [], [], [], []
        self.warm, self.caps, self.gone, self.most, self.levels = {}, {}, {}, {}, {}
        self.given = self.clock = 0
        for line in text.splitlines():
            self.read(line.split(" "))

    def read(self, words):
        kind, name = words[:2]
        if kind == "room":
            self.rooms.append(name)
            self.caps[name] = 2 ** int(words[2])
            self.warm[name] = Fraction(int(words[3]))
        elif kind == "outside":
            self.outsides.append(name)
            self.warm[name] = Fraction(int(words[2]))
            self.gone[name] = Fraction(0)
        elif kind == "link":
            self.links.append((name, words[2], int(words[3])))
        else:
            self.heaters.append((name, words[2]))
            self.most[name] = int(words[3])
            self.levels[name] = 0

    def inward(self, room):
        total = Fraction(0)
        for first, second, conductance in self.links:
            if room == first:
                total += Fraction(conductance, 64) * (self.warm[second] - self.warm[room])
            if room == second:
                total += Fraction(conductance, 64) * (self.warm[first] - self.warm[room])
        return total

    def heating(self, room):
        return sum(self.levels[name] for name, heated in self.heaters if heated == room)

    def step(self):
        after = dict(self.warm)
        for room in self.rooms:
            after[room] += (self.inward(room) + self.heating(room)) / self.caps[room]
        for name in self.outsides:
            self.gone[name] += self.inward(name)
        self.given += sum(self.levels.values())
        self.warm = after
        self.clock += 1

    def held(self):
        return sum(self.warm[room] * self.caps[room] for room in self.rooms)

    def books(self):
        books = [0] + told(self.held()) + [self.given]
        for name in self.outsides:
            books += told(self.gone[name])
        return books

    def temp(self, number):
        return [0] + told(self.warm[self.rooms[number - 1]])

    def trace(self, number):
        room = self.rooms[number - 1]
        return [0, millionths(self.warm[room]), millionths(self.inward(room)), self.heating(room)]

    def flow(self, number):
        first, second, conductance = self.links[number - 1]
        return [0, millionths(Fraction(conductance, 64) * (self.warm[first] - self.warm[second]))]

    def copied(self):
        twin = Model("")
        for name, value in vars(self).items():
            setattr(twin, name, value.copy() if isinstance(value, (list, dict)) else value)
        return twin

    def set_room(self, number, temperature):
        self.warm[self.rooms[number - 1]] = Fraction(temperature)
        self.given = 0
        for name in self.outsides:
            self.gone[name] = Fraction(0)

    def set_weather(self, row):
        """Takes a temperature for each outside, then a level for each heater."""
        for name, temperature in zip(self.outsides, row):
            self.warm[name] = Fraction(temperature)
        for (name, room), level in zip(self.heaters, row[len(self.outsides):]):
            self.levels[name] = level

    def weather(self):
        return [int(self.warm[name]) for name in self.outsides] + [self.levels[name] for name, room in self.heaters]

    def behind(self, steps, weather):
        twin = self.copied()
        twin.set_weather(weather)
        for step in range(steps):
            twin.step()
        return [twin.warm[room] for room in twin.rooms]

    def has_ways_out(self):
        """Whether from each room a way leads out, asked room by room."""
        for start in self.rooms:
            seen, due = {start}, [start]
            while due:
                here = due.pop()
                for first, second, conductance in self.links:
                    for near, far in ((first, second), (second, first)):
                        if near == here and far not in seen:
                            seen.add(far)
                            # a way of links leads through rooms alone
                            due += [far] * (far in self.rooms)
            if not seen & set(self.outsides):
                return False
        return True

    def rests(self):
        """The temperatures at which nothing more flows in than out, by elimination in fractions."""
        rows = []
        for room in self.rooms:
            row = {name: Fraction(0) for name in self.rooms}
            due = Fraction(self.heating(room))
            for first, second, conductance in self.links:
                for near, far in ((first, second), (second, first)):
                    if near == room:
                        row[room] += Fraction(conductance, 64)
                        if far in row:
                            row[far] -= Fraction(conductance, 64)
                        else:
                            due += Fraction(conductance, 64) * self.warm[far]
            rows.append([row[name] for name in self.rooms] + [due])
        for place in range(len(rows)):
            lead = [number / rows[place][place] for number in rows[place]]
            rows = [[number - row[place] * led for number, led in zip(row, lead)] for row in rows]
            rows[place] = lead
        return [row[-1] for row in rows]

    def rest(self):
        if not self.has_ways_out():
            return [-4]
        answer = [0]
        for x in self.rests():
            answer += [millionths(x), x.denominator % MODULUS]
        return answer

    def first_behind(self, steps, holds):
        """The answer that tells the first of the steps behind which something holds."""
        twin = self.copied()
        for count in range(steps + 1):
            if holds(twin):
                return [0, 1, count]
            twin.step()
        return [0, 0]

    def settle(self, nearness, steps):
        if not 0 <= nearness <= 100000 or not 0 <= steps <= 1000:
            return [-2]
        if not self.has_ways_out():
            return [-4]
        aims = list(zip(self.rooms, self.rests()))
        return self.first_behind(steps, lambda twin: all(abs(twin.warm[room] - x) <= nearness for room, x in aims))

    def halve(self, steps):
        if not 0 <= steps <= 1000:
            return [-2]
        twin = self.copied()
        twin.set_weather([0] * (len(self.outsides) + len(self.heaters)))
        for room in twin.rooms:
            twin.warm[room] = Fraction(1)
        return twin.first_behind(steps, lambda it: all(it.warm[room] <= Fraction(1, 2) for room in it.rooms))

    def is_weather(self, row):
        bounds = [(-100000, 100000)] * len(self.outsides) + [(0, self.most[name]) for name, room in self.heaters]
        return len(row) == len(bounds) and all(low <= x <= high for x, (low, high) in zip(row, bounds))

    def bracket(self, steps, lower, upper):
        if not 0 <= steps <= 1000 or not self.is_weather(lower) or not self.is_weather(upper):
            return [-2]
        if any(low > high for low, high in zip(lower, upper)):
            return [-2]
        answer = [0]
        for cold, warm in zip(self.behind(steps, lower), self.behind(steps, upper)):
            answer += [millionths(cold), millionths(warm)]
        return answer

    def latest(self, number, temperature, steps):
        if not 1 <= number <= len(self.rooms):
            return [-1]
        if not -100000 <= temperature <= 100000 or not 0 <= steps <= 60:
            return [-2]
        for unheated in range(steps, -1, -1):
            twin = self.copied()
            for step in range(steps):
                for name, room in twin.heaters:
                    twin.levels[name] = 0 if step < unheated else twin.most[name]
                twin.step()
            if twin.warm[twin.rooms[number - 1]] >= temperature:
                return [0, unheated]
        return [-5]

    def is_warm_enough(self, heater, level, number, temperature):
        twin = self.copied()
        twin.levels[twin.heaters[heater - 1][0]] = level
        return twin.rests()[number - 1] >= temperature

    def least(self, heater, number, temperature):
        if not 1 <= heater <= len(self.heaters) or not 1 <= number <= len(self.rooms):
            return [-1]
        if not -100000 <= temperature <= 100000:
            return [-2]
        if not self.has_ways_out():
            return [-4]
        low, high = 0, self.most[self.heaters[heater - 1][0]]
        if not self.is_warm_enough(heater, high, number, temperature):
            return [-5]
        while low < high:
            middle = (low + high) // 2
            if self.is_warm_enough(heater, middle, number, temperature):
                high = middle
            else:
                low = middle + 1
        return [0, low]

    def tell_clock(self):
        return [0, self.clock] + self.weather()

    def looks(self):
        """What all the calls that only look at a building should answer."""
        rooms = range(1, len(self.rooms) + 1)
        return ([self.temp(room) for room in rooms] + [self.trace(room) for room in rooms]
                + [self.books()] + [self.flow(link + 1) for link in range(len(self.links))]
                + [self.rest(), self.tell_clock()])

    def look_calls(self):
        rooms = range(1, len(self.rooms) + 1)
        return ([temp(room) for room in rooms] + [trace(room) for room in rooms]
                + [BOOKS] + [flow(link + 1) for link in range(len(self.links))] + [REST, CLOCK])


def house_of(text):
    plan = Plan()
    if take_text(plan, list(text.encode())):
        raise AssertionError(text)
    house = House()
    house.tell(plan)
    return house


def exact_rests(text, outsides, levels):
    wholes, denominator = rests(house_of(text).net, outsides, levels)
    return [Fraction(whole, denominator) for whole in wholes]


def open_texts(count, rooms, outsides, links, heaters, **more):
    """Random buildings with a way out from each room."""
    texts, seed = [], 0
    while len(texts) < count:
        seed += 1
        text = random_text(random.Random(seed), rooms, outsides, links, heaters, **more)
        if Model(text).has_ways_out():
            texts.append(text)
    return texts


class Refused(unittest.TestCase):
    """Asks for what is refused, or only looks ahead, that all goes on as if it had not been asked."""

    TEXT = ("room a 0 20\nroom b 4 -3\noutside o 5\noutside p -12\nlink a b 7\nlink o a 9\nlink b p 100\n"
            "heater h a 30\nheater i b 1000000\n")
    START = [build(TEXT), outside(1, 6), heat(1, 12), run(3)]
    LOOKS = [PRINT, temp(1), temp(2), trace(1), trace(2), BOOKS, flow(1), flow(2), flow(3), REST, CLOCK]

    def unchanged(self, call, start=START):
        """What the call answers; all behind it is as if it had not been asked."""
        after = self.LOOKS + [heat(2, 1), outside(2, 1), run(1)] + self.LOOKS + [run(900)] + self.LOOKS
        plain = ask(*start, *after)
        mixed = ask(*start, call, *after)
        self.assertEqual(mixed[:len(start)] + mixed[len(start) + 1:], plain, call)
        return mixed[len(start)]

    def refused(self, call, why, start=START):
        """The call is refused alone, and changes nothing."""
        self.assertEqual(self.unchanged(call, start), [why], call)
