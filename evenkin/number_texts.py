"""The texts of whole numbers and fractions."""


def show_numbers(numbers):
    return " ".join([str(number) for number in numbers])


def show_fraction(f):
    top = f[0]
    bottom = f[1]
    return f"{top}" if bottom == 1 else f"{top}/{bottom}"
