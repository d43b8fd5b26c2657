"""A building as it stands now."""

from warmrooms.plan import Plan
from warmrooms.warmth import Net, Warmth


class House:
    """What was told of a building, and what has come of it since."""

    def __init__(self):
        self.tell(Plan())

    def tell(self, plan):
        """Makes this the building of the plan, as it is at first."""
        self.plan = plan
        self.net = Net(plan)
        self.clock = 0
        self.outsides = [temperature for name, temperature in plan.outsides]
        self.levels = [0 for heater in plan.heaters]
        self.given = 0
        temperatures = [temperature for name, cap, temperature in plan.rooms]
        self.warmth = Warmth(temperatures, len(plan.outsides))

    def run(self, steps):
        self.warmth.make_steps(self.net, self.outsides, self.levels, steps)
        self.given += steps * sum(self.levels)
        self.clock += steps

    def set_room(self, room, temperature):
        # the heat that this brings in or takes out is in no book, so the books begin anew
        self.warmth.set_room(room, temperature)
        self.warmth.forget_gone()
        self.given = 0
