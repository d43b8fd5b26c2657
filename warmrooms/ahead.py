"""What would come of a building in so many steps, on copies: the building stays as it is."""

from warmrooms.refusals import NotEnough
from warmrooms.rest import rests
from warmrooms.warmth import Warmth


def warmth_behind(house, outsides, levels, steps):
    """How warm the rooms would be behind so many steps with these outsides and levels."""
    warmth = house.warmth.copied()
    warmth.make_steps(house.net, outsides, levels, steps)
    return warmth


def steps_to_within(house, temperatures, bound, most_steps):
    """How soon all rooms would be from -bound to bound, were they at these temperatures, all
    outsides at 0 and nothing heated; None if not within the most steps."""
    outsides = [0 for outside in house.outsides]
    gifts = [0 for temperature in temperatures]
    warmth = Warmth(temperatures, len(outsides))
    steps = 0
    while not warmth.is_within(bound):
        if steps == most_steps:
            return None
        warmth.make_step(house.net, outsides, gifts)
        steps += 1
    return steps


def steps_to_settle(house, nearness, most_steps):
    """How soon all rooms are within the nearness of their rests, or None."""
    wholes, denominator = rests(house.net, house.outsides, house.levels)
    warmth = house.warmth
    # What a room is away from its rest goes on as temperatures do with all outsides at 0
    # and nothing heated. Here it is a whole number over the denominator and 2^power.
    away = [temperature * denominator - (whole << warmth.power)
            for temperature, whole in zip(warmth.rooms, wholes)]
    return steps_to_within(house, away, (nearness * denominator) << warmth.power, most_steps)


def steps_to_halve(house, most_steps):
    """How soon rooms at 1 would all be at 1/2 or below, with all outsides at 0, or None."""
    # twice as warm all over, so that the half is whole
    return steps_to_within(house, [2 for room in house.plan.rooms], 1, most_steps)


def latest_start(house, room, temperature, steps):
    """The most of the steps that may go by unheated, if the room is to be so warm behind all."""
    unheated = [0 for level in house.levels]
    plain = warmth_behind(house, house.outsides, unheated, steps)
    lacking = (temperature << plain.power) - plain.rooms[room]
    # heat adds the same to a room whatever else is there, so it is looked at alone
    outsides = [0 for outside in house.outsides]
    gifts = house.net.gifts(house.plan.mosts())
    heat = Warmth([0 for cap in house.net.caps], len(outsides))
    heated = 0
    while heat.rooms[room] << (plain.power - heat.power) < lacking:
        if heated == steps:
            raise NotEnough()
        heat.make_step(house.net, outsides, gifts)
        heated += 1
    return steps - heated
