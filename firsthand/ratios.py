"""Fractions: pairs (top, bottom) of whole numbers, in lowest terms, with a bottom of at least 1."""

from math import gcd

NONE_AT_ALL = (0, 1)


def reduced(top, bottom):
    """Return the fraction in lowest terms."""
    common = gcd(top, bottom)
    return top // common, bottom // common


def added(one, two):
    """Return the sum of two fractions."""
    return reduced(one[0] * two[1] + two[0] * one[1], one[1] * two[1])


def multiplied(one, two):
    """Return the product of two fractions."""
    return reduced(one[0] * two[0], one[1] * two[1])


def divided(one, two):
    """Return a fraction divided by another one that is greater than 0."""
    return reduced(one[0] * two[1], one[1] * two[0])


def raised(base, exponent):
    """Return the power of a whole number."""
    found = 1
    square = base
    rest = exponent
    while rest > 0:
        if rest & 1 == 1:
            found = found * square
        square = square * square
        rest = rest >> 1
    return found
