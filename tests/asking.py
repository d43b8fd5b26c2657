"""What the tests share: calls written shortly, answers parted, and a slow model in fractions."""

from fractions import Fraction
from math import floor

from warmrooms.building import answers

MODULUS = 1000000007

PRINT = [1]
BOOKS = [7]


def build(text):
    if isinstance(text, str):
        text = text.encode("latin-1")
    return [0, len(text)] + list(text)


def outside(number, temperature):
    return [2, number, temperature]


def heat(number, level):
    return [3, number, level]


def run(steps):
    return [4, steps]


def temp(room):
    return [5, room]


def trace(room):
    return [6, room]


def flow(link):
    return [8, link]


def flat(calls):
    return [number for call in calls for number in call]


def part(row):
    """The answers that stand in a row one behind the other, each as a list."""
    parted = []
    place = 0
    while place < len(row):
        end = place + 1 + row[place]
        if row[place] < 1 or end > len(row):
            raise AssertionError(f"no answer of {row[place]} numbers at {place}")
        parted.append(row[place + 1:end])
        place = end
    return parted


def ask(*calls):
    """The answers to these calls, a list for each."""
    parted = part(answers(flat(calls)))
    if len(parted) != len(calls):
        raise AssertionError(f"{len(parted)} answers to {len(calls)} calls")
    return parted


def last(*calls):
    return ask(*calls)[-1]


def told(x):
    """How the document tells an exact number."""
    x = Fraction(x)
    power = 0
    while (x * 2 ** power).denominator != 1:
        power += 1
    return [floor(x), power, int(x * 2 ** power) % MODULUS]


def millionths(x):
    return floor(Fraction(x) * 1000000)


def untold(three):
    """The exact number that is told by three, of which no more than 29 twos lie below."""
    whole, power, rest = three
    if power > 29:
        raise AssertionError("too many twos to tell the number")
    return whole + Fraction((rest - (whole << power)) % MODULUS, 2 ** power)


def residue(three):
    """The number that is told by three, modulo MODULUS."""
    return three[2] * pow(pow(2, -1, MODULUS), three[1], MODULUS) % MODULUS


class Model:
    """A building in fractions, stepped room by room just as the document words it."""

    def __init__(self, text):
        self.rooms, self.outsides, self.links, self.heaters = [], [], [], []
        self.warm, self.caps, self.gone, self.most, self.levels = {}, {}, {}, {}, {}
        self.given = self.clock = 0
        for line in text.splitlines():
            self.read(line.split(" "))

    def read(self, words):
        kind, name = words[:2]
        if kind == "room":
            self.rooms.append(name)
            self.caps[name] = 2 ** int(words[2])
            self.warm[name] = Fraction(int(words[3]))
        elif kind == "outside":
            self.outsides.append(name)
            self.warm[name] = Fraction(int(words[2]))
            self.gone[name] = Fraction(0)
        elif kind == "link":
            self.links.append((name, words[2], int(words[3])))
        else:
            self.heaters.append((name, words[2]))
            self.most[name] = int(words[3])
            self.levels[name] = 0

    def inward(self, room):
        total = Fraction(0)
        for first, second, conductance in self.links:
            if room == first:
                total += Fraction(conductance, 64) * (self.warm[second] - self.warm[room])
            if room == second:
                total += Fraction(conductance, 64) * (self.warm[first] - self.warm[room])
        return total

    def heating(self, room):
        return sum(self.levels[name] for name, heated in self.heaters if heated == room)

    def step(self):
        after = dict(self.warm)
        for room in self.rooms:
            after[room] += (self.inward(room) + self.heating(room)) / self.caps[room]
        for name in self.outsides:
            self.gone[name] += self.inward(name)
        self.given += sum(self.levels.values())
        self.warm = after
        self.clock += 1

    def held(self):
        return sum(self.warm[room] * self.caps[room] for room in self.rooms)

    def books(self):
        books = [0] + told(self.held()) + [self.given]
        for name in self.outsides:
            books += told(self.gone[name])
        return books

    def temp(self, number):
        return [0] + told(self.warm[self.rooms[number - 1]])

    def trace(self, number):
        room = self.rooms[number - 1]
        return [0, millionths(self.warm[room]), millionths(self.inward(room)), self.heating(room)]

    def flow(self, number):
        first, second, conductance = self.links[number - 1]
        return [0, millionths(Fraction(conductance, 64) * (self.warm[first] - self.warm[second]))]

    def looks(self):
        """What all the calls that only look at a building should answer."""
        rooms = range(1, len(self.rooms) + 1)
        return ([self.temp(room) for room in rooms] + [self.trace(room) for room in rooms]
                + [self.books()] + [self.flow(link + 1) for link in range(len(self.links))])

    def look_calls(self):
        rooms = range(1, len(self.rooms) + 1)
        return ([temp(room) for room in rooms] + [trace(room) for room in rooms]
                + [BOOKS] + [flow(link + 1) for link in range(len(self.links))])
