"""Why a call is refused."""


class NoSuchThing(Exception):
    """There's no such room, outside, heater or link."""


class OutOfRange(Exception):
    """A number isn't in its range."""


class PastTheEnd(Exception):
    """The clock would go too far."""


class NoWayOut(Exception):
    """From some room no way of links leads to an outside."""


class NotEnough(Exception):
    """Nothing that may be chosen makes the room warm enough."""


def place_of(number, things):
    """Where the thing with this number (from 1) stands in the list."""
    if number < 1 or number > len(things):
        raise NoSuchThing()
    return number - 1


def need_within(number, least, most):
    if number < least or number > most:
        raise OutOfRange()
