"""Where a building comes to rest: whole numbers over one denominator."""

from warmrooms.refusals import NotEnough, NoWayOut
from warmrooms.warmth import SIXTY_FOURTHS


def need_ways_out(net, outsides):
    """Refuses a building where from some room no way of links leads to an outside."""
    led_out = [False for cap in net.caps] + [True for temperature in outsides]
    # the shortest way passes through no room twice, so as many turns as rooms find it
    for turn in range(len(net.caps)):
        for first, second, conductance in net.joints:
            if led_out[first] or led_out[second]:
                led_out[first] = True
                led_out[second] = True
    if not all(led_out):
        raise NoWayOut()


def balances(net, outsides, levels):
    """A row for each room: what flows out of it for each degree in each room, then what
    comes to it from outsides and heaters; all of it in 64ths."""
    count = len(net.caps)
    rows = []
    for gift in net.gifts(levels):
        rows.append([0 for cap in net.caps] + [gift << SIXTY_FOURTHS])
    for first, second, conductance in net.joints:
        for here, there in ((first, second), (second, first)):
            if here < count:
                rows[here][here] += conductance
            if here < count and there < count:
                rows[here][there] -= conductance
            if here < count and there >= count:
                rows[here][count] += conductance * outsides[there - count]
    return rows


def cleared(row, lead, place, divisor):
    """The row less so much of the leading one that nothing is left at the place."""
    return [(lead[place] * number - row[place] * led) // divisor for number, led in zip(row, lead)]


def solved(rows):
    """What all rows balance with: whole numbers, and their one denominator, above 0.

    By whole numbers alone: each division by the leading number before comes out
    even. No leading number is 0 where each room has a way to an outside.
    """
    divisor = 1
    for place in range(len(rows)):
        lead = rows[place]
        others = [cleared(row, lead, place, divisor) for row in rows]
        rows = others[:place] + [lead] + others[place + 1:]
        divisor = lead[place]
    return [row[-1] for row in rows], divisor


def rests(net, outsides, levels):
    """The rooms' rests with these outsides and levels, as whole numbers, and their denominator."""
    need_ways_out(net, outsides)
    return solved(balances(net, outsides, levels))


def least_level(house, heater, room, temperature):
    """The least level of the heater with which the room rests at the temperature at least."""
    levels = list(house.levels)
    levels[heater] = 0
    unheated, denominator = rests(house.net, house.outsides, levels)
    levels[heater] = 1
    heated, denominator = rests(house.net, house.outsides, levels)
    # a rest rises evenly with a level, and its denominator hangs on the links alone
    gain = heated[room] - unheated[room]
    lacking = temperature * denominator - unheated[room]
    if lacking <= 0:
        return 0
    if lacking > gain * house.plan.mosts()[heater]:
        raise NotEnough()
    return (lacking + gain - 1) // gain
