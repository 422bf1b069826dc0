"""Fractions: tuples (top, bottom) of whole numbers in lowest terms, the bottom from 1 on."""


def greatest_divisor(number, other):
    while other != 0:
        rest = number % other
        number = other
        other = rest
    return abs(number)


def fraction_of(top, bottom):
    divisor = greatest_divisor(top, bottom)
    # A divisor below 0 moves the sign of the bottom up to the top.
    if bottom < 0:
        divisor = -divisor
    return (top // divisor, bottom // divisor)


def sum_of_two(f, g):
    return fraction_of(f[0] * g[1] + g[0] * f[1], f[1] * g[1])


def product_of(f, g):
    return fraction_of(f[0] * g[0], f[1] * g[1])
