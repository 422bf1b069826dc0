"""Fractions: tuples (top, bottom) of whole numbers in lowest terms, the bottom from 1 on."""


def greatest_divisor(number, other):
    while other != 0:
        rest = number % other
        number = other
        other = rest
    return abs(number)


def fraction_of(top, bottom):
    divisor = greatest_divisor(top, bottom)
    # A divisor below 0 moves the sign of the bottom up to the top.
    if bottom < 0:
        divisor = -divisor
    return (top // divisor, bottom // divisor)


def sum_of_two(f, g):
    return fraction_of(f[0] * g[1] + g[0] * f[1], f[1] * g[1])


def product_of(f, g):
    return fraction_of(f[0] * g[0], f[1] * g[1])


def sum_of_all(fractions):
    total = (0, 1)
    for f in fractions:
        total = sum_of_two(total, f)
    return total


def common_bottom(fractions):
    bottom = 1
    for f in fractions:
        bottom = bottom // greatest_divisor(bottom, f[1]) * f[1]
    return bottom


def top_over(f, bottom):
    return f[0] * (bottom // f[1])
