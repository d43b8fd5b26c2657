"""How warm the rooms are, and what a step makes of it."""

SIXTY_FOURTHS = 6


class Net:
    """A plan by places instead of names: the rooms from 0 on, then the outsides."""

    def __init__(self, plan):
        ends = plan.end_names()
        self.caps = [cap for name, cap, temperature in plan.rooms]
        self.most_cap = max(self.caps, default=0)
        self.joints = [(ends.index(first), ends.index(second), conductance)
                       for first, second, conductance in plan.links]
        self.heated = [ends.index(room) for name, room, most in plan.heaters]

    def gifts(self, levels):
        """What heaters with these levels give to each room in a step."""
        rooms = [0 for cap in self.caps]
        for room, level in zip(self.heated, levels):
            rooms[room] += level
        return rooms


class Warmth:
    """The rooms' temperatures, and what has gone to the outsides.

    All of these are whole numbers over one and the same 2^power, so that a
    step takes whole numbers alone and loses nothing.
    """

    def __init__(self, temperatures, outsides):
        self.power = 0
        self.rooms = list(temperatures)
        self.gone = [0 for outside in range(outsides)]

    def flows(self, net, outsides):
        """What flows by each link from its first end to its second, over 2^power and 64."""
        ends = self.rooms + [temperature << self.power for temperature in outsides]
        return [conductance * (ends[first] - ends[second]) for first, second, conductance in net.joints]

    def inflows(self, net, outsides):
        """What flows into each room, then into each outside, over 2^power and 64."""
        ends = [0 for end in self.rooms + self.gone]
        for joint, flow in zip(net.joints, self.flows(net, outsides)):
            ends[joint[0]] -= flow
            ends[joint[1]] += flow
        return ends

    def make_step(self, net, outsides, gifts):
        inflows = self.inflows(net, outsides)
        rooms = []
        for room, cap in enumerate(net.caps):
            gain = inflows[room] + (gifts[room] << (self.power + SIXTY_FOURTHS))
            after = (self.rooms[room] << (cap + SIXTY_FOURTHS)) + gain
            rooms.append(after << (net.most_cap - cap))
        gone = []
        for before, flow in zip(self.gone, inflows[len(rooms):]):
            gone.append(((before << SIXTY_FOURTHS) + flow) << net.most_cap)
        self.rooms = rooms
        self.gone = gone
        self.power += SIXTY_FOURTHS + net.most_cap

    def make_steps(self, net, outsides, levels, steps):
        gifts = net.gifts(levels)
        for step in range(steps):
            self.make_step(net, outsides, gifts)

    def copied(self):
        twin = Warmth(self.rooms, 0)
        twin.power = self.power
        twin.gone = list(self.gone)
        return twin

    def set_room(self, room, temperature):
        self.rooms[room] = temperature << self.power

    def forget_gone(self):
        self.gone = [0 for gone in self.gone]

    def is_within(self, bound):
        """Whether each room's temperature is from -bound to bound."""
        return max([abs(whole) for whole in self.rooms], default=0) <= bound << self.power

    def held(self, net):
        """What all rooms hold together, over 2^power."""
        return sum([whole << cap for whole, cap in zip(self.rooms, net.caps)])
