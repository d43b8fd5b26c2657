"""A building as a text tells it, and how it is printed."""

MOST_CAP = 10
MOST_ROOMS = 12
MOST_OUTSIDES = 4
MOST_LINKS = 40
MOST_HEATERS = 8
HOTTEST = 100000
MOST_CONDUCTANCE = 100000
MOST_HEAT = 1000000


class Plan:
    """What was told of a building, each kind of thing in the order in which it came.

    Rooms are (name, cap, temperature), outsides (name, temperature), links
    (name, name, conductance), heaters (name, name of the room, most).
    """

    def __init__(self):
        self.rooms = []
        self.outsides = []
        self.links = []
        self.heaters = []

    def room_names(self):
        return [name for name, cap, temperature in self.rooms]

    def end_names(self):
        """The names that a link's end may have: the rooms', then the outsides'."""
        return self.room_names() + [name for name, temperature in self.outsides]

    def all_names(self):
        return self.end_names() + [name for name, room, most in self.heaters]

    def mosts(self):
        """The most that each heater can give in a step."""
        return [most for name, room, most in self.heaters]

    def are_linked(self, first, second):
        pairs = [(one, other) for one, other, conductance in self.links]
        return (first, second) in pairs or (second, first) in pairs

    def first_unsteady(self):
        """The number of the first room that isn't steady, or 0 if all are."""
        loads = {}
        for first, second, conductance in self.links:
            loads[first] = loads.get(first, 0) + conductance
            loads[second] = loads.get(second, 0) + conductance
        number = 0
        for name, cap, temperature in self.rooms:
            number += 1
            if loads.get(name, 0) > 64 << cap:
                return number
        return 0


def print_plan(plan):
    """The text of the building, with the temperatures at first."""
    rows = [f"room {name} {cap} {temperature}\n" for name, cap, temperature in plan.rooms]
    rows += [f"outside {name} {temperature}\n" for name, temperature in plan.outsides]
    rows += [f"link {first} {second} {conductance}\n" for first, second, conductance in plan.links]
    rows += [f"heater {name} {room} {most}\n" for name, room, most in plan.heaters]
    return "".join(rows)
