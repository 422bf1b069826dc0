"""Reckonings: lists of steps that may name earlier ones, the tables that they have in a web, and the total."""

from evenkin.errors import NoStep
from evenkin.grids import in_square
from evenkin.terms import fractions_of_value, inner_terms, total_of_value, value_by_kind


def named_by(step):
    # A step has the numbers of other steps where a table term has other terms.
    return inner_terms(step)


def look_at_steps(steps):
    for place, step in enumerate(steps):
        for number in named_by(step):
            if number < 0 or number >= place:
                raise NoStep(place)


def value_of_step(web, step, values):
    value = value_by_kind(web, step, [values[number] for number in named_by(step)])
    # As a term a hue has a row; as a step it has the table of on of that row.
    return value_by_kind(web, ("on", step), [value]) if step[0] == "hue" else value


def values_of_steps(web, steps):
    look_at_steps(steps)
    values = []
    for step in steps:
        values.append(value_of_step(web, step, values))
    return values


def tables_of_steps(web, steps):
    size = len(web[0])
    return [in_square(fractions_of_value(value), size) for value in values_of_steps(web, steps)]


def steps_total(web, steps):
    return total_of_value(values_of_steps(web, steps)[-1])
