"""How exact numbers are told: whole numbers over powers of 2."""

MODULUS = 1000000007
MILLION = 1000000


def spare_twos(whole, power):
    """How many twos go out of whole over 2^power, at most power of them."""
    if whole == 0:
        return power
    return min(power, (whole & -whole).bit_length() - 1)


def tell_exactly(whole, power):
    """The three numbers by which whole over 2^power is told."""
    spare = spare_twos(whole, power)
    return [whole >> power, power - spare, (whole >> spare) % MODULUS]


def greatest_divisor(first, second):
    """The greatest number that divides both, of which the second is above 0."""
    while second > 0:
        first, second = second, first % second
    return first


def tell_ratio(whole, denominator):
    """Whole over a denominator above 0: in millionths, and what its denominator is in least terms."""
    least = denominator // greatest_divisor(whole, denominator)
    return [whole * MILLION // denominator, least % MODULUS]


def tell_millionths(whole, power):
    """The one number that tells whole over 2^power in millionths."""
    return [(whole * MILLION) >> power]
