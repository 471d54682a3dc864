"""Sets of numbers from 0 on, as integers: a number is in the set if the bit at this position is 1.

So large sets are joined and compared in one step each.
"""


def set_of(numbers):
    """Return the set of some numbers."""
    bits = 0
    for number in numbers:
        bits = bits | (1 << number)
    return bits


def span(start, stop):
    """Return the set of the numbers from a start on that are less than a stop."""
    return (1 << stop) - (1 << start)


def is_in(number, bits):
    """Tell if a number is in a set."""
    return (bits >> number) & 1 == 1


def least(bits):
    """Return the least number in a set that is not empty."""
    return (bits & -bits).bit_length() - 1


def greatest(bits):
    """Return the greatest number in a set that is not empty."""
    return bits.bit_length() - 1


def numbers_in(bits):
    """Return the numbers in a set, ascending."""
    numbers = []
    while bits != 0:
        numbers.append(least(bits))
        bits = bits & (bits - 1)
    return numbers
