"""The calls on a building, and what they answer."""

from warmrooms.ahead import latest_start, steps_to_halve, steps_to_settle, warmth_behind
from warmrooms.exact import tell_exactly, tell_millionths, tell_ratio
from warmrooms.house import House
from warmrooms.plan import HOTTEST, Plan, print_plan
from warmrooms.refusals import NoSuchThing, NotEnough, NoWayOut, OutOfRange, PastTheEnd, need_within, place_of
from warmrooms.rest import least_level, rests
from warmrooms.texts import take_text
from warmrooms.warmth import SIXTY_FOURTHS

MOST_STEPS = 1000
LAST_CLOCK = 1000
FARTHEST = 100000
MOST_STEPS_TO_START = 60


def call_build(house, given):
    plan = Plan()
    fault = take_text(plan, given[0])
    if fault:
        return [1] + fault
    house.tell(plan)
    return [0, len(plan.rooms), len(plan.outsides), len(plan.links), len(plan.heaters)]


def call_print(house, given):
    return [0] + [ord(sign) for sign in print_plan(house.plan)]


def call_outside(house, given):
    number, temperature = given
    place = place_of(number, house.plan.outsides)
    need_within(temperature, -HOTTEST, HOTTEST)
    house.outsides[place] = temperature
    return [0]


def call_heat(house, given):
    number, level = given
    place = place_of(number, house.plan.heaters)
    name, room, most = house.plan.heaters[place]
    need_within(level, 0, most)
    house.levels[place] = level
    return [0]


def call_run(house, given):
    steps = given[0]
    need_within(steps, 1, MOST_STEPS)
    if house.clock + steps > LAST_CLOCK:
        raise PastTheEnd()
    house.run(steps)
    return [0, house.clock]


def call_temp(house, given):
    place = place_of(given[0], house.plan.rooms)
    return [0] + tell_exactly(house.warmth.rooms[place], house.warmth.power)


def call_trace(house, given):
    place = place_of(given[0], house.plan.rooms)
    warmth = house.warmth
    inflow = warmth.inflows(house.net, house.outsides)[place]
    gift = house.net.gifts(house.levels)[place]
    temperature = tell_millionths(warmth.rooms[place], warmth.power)
    return [0] + temperature + tell_millionths(inflow, warmth.power + SIXTY_FOURTHS) + [gift]


def call_books(house, given):
    warmth = house.warmth
    books = [0] + tell_exactly(warmth.held(house.net), warmth.power) + [house.given]
    for gone in warmth.gone:
        books += tell_exactly(gone, warmth.power)
    return books


def call_flow(house, given):
    place = place_of(given[0], house.plan.links)
    flow = house.warmth.flows(house.net, house.outsides)[place]
    return [0] + tell_millionths(flow, house.warmth.power + SIXTY_FOURTHS)


def call_rest(house, given):
    wholes, denominator = rests(house.net, house.outsides, house.levels)
    answer = [0]
    for whole in wholes:
        answer += tell_ratio(whole, denominator)
    return answer


def tell_steps(steps):
    if steps is None:
        return [0, 0]
    return [0, 1, steps]


def call_settle(house, given):
    nearness, steps = given
    need_within(nearness, 0, FARTHEST)
    need_within(steps, 0, MOST_STEPS)
    return tell_steps(steps_to_settle(house, nearness, steps))


def call_halve(house, given):
    steps = given[0]
    need_within(steps, 0, MOST_STEPS)
    return tell_steps(steps_to_halve(house, steps))


def need_bounds(plan, bounds):
    """Refuses what isn't a temperature for each outside, then a level for each heater."""
    count = len(plan.outsides)
    if len(bounds) != count + len(plan.heaters):
        raise OutOfRange()
    for temperature in bounds[:count]:
        need_within(temperature, -HOTTEST, HOTTEST)
    for level, most in zip(bounds[count:], plan.mosts()):
        need_within(level, 0, most)


def call_bracket(house, given):
    steps, lower, upper = given
    need_within(steps, 0, MOST_STEPS)
    need_bounds(house.plan, lower)
    need_bounds(house.plan, upper)
    for low, high in zip(lower, upper):
        if low > high:
            raise OutOfRange()
    count = len(house.outsides)
    colder = warmth_behind(house, lower[:count], lower[count:], steps)
    warmer = warmth_behind(house, upper[:count], upper[count:], steps)
    answer = [0]
    for low, high in zip(colder.rooms, warmer.rooms):
        answer += tell_millionths(low, colder.power) + tell_millionths(high, warmer.power)
    return answer


def call_latest(house, given):
    number, temperature, steps = given
    room = place_of(number, house.plan.rooms)
    need_within(temperature, -HOTTEST, HOTTEST)
    need_within(steps, 0, MOST_STEPS_TO_START)
    return [0, latest_start(house, room, temperature, steps)]


def call_least(house, given):
    number, room_number, temperature = given
    heater = place_of(number, house.plan.heaters)
    room = place_of(room_number, house.plan.rooms)
    need_within(temperature, -HOTTEST, HOTTEST)
    return [0, least_level(house, heater, room, temperature)]


def call_set(house, given):
    number, temperature = given
    room = place_of(number, house.plan.rooms)
    need_within(temperature, -HOTTEST, HOTTEST)
    house.set_room(room, temperature)
    return [0]


def call_clock(house, given):
    return [0, house.clock] + house.outsides + house.levels


# By a call's number: what answers it, how many numbers and how many rows it is given.
CALLS = (
    (call_build, 0, 1),
    (call_print, 0, 0),
    (call_outside, 2, 0),
    (call_heat, 2, 0),
    (call_run, 1, 0),
    (call_temp, 1, 0),
    (call_trace, 1, 0),
    (call_books, 0, 0),
    (call_flow, 1, 0),
    (call_rest, 0, 0),
    (call_settle, 2, 0),
    (call_halve, 1, 0),
    (call_bracket, 1, 2),
    (call_latest, 3, 0),
    (call_least, 3, 0),
    (call_set, 2, 0),
    (call_clock, 0, 0),
)


def read_given(calls, place, numbers, rows):
    """The numbers and then the rows from this place on, and the place behind them."""
    end = place + numbers
    given = calls[place:end]
    for row in range(rows):
        start = end + 1
        end = start + calls[end]
        given.append(calls[start:end])
    return given, end


def answer_or_refusal(call, house, given):
    try:
        return call(house, given)
    except NoSuchThing:
        return [-1]
    except OutOfRange:
        return [-2]
    except PastTheEnd:
        return [-3]
    except NoWayOut:
        return [-4]
    except NotEnough:
        return [-5]


def answers(calls):
    """What the calls answer, one behind the other, each with its length ahead of it."""
    house = House()
    rows = []
    place = 0
    while place < len(calls):
        call, number_count, row_count = CALLS[calls[place]]
        given, place = read_given(calls, place + 1, number_count, row_count)
        answer = answer_or_refusal(call, house, given)
        rows.append(len(answer))
        rows.extend(answer)
    return rows
