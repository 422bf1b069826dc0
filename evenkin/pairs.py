"""Two webs held against one another by pairs, and the looker at what is told of them."""

from evenkin.grids import in_one_list
from evenkin.kinds import are_kin, as_many_of_each, kinds_together, same_kin
from evenkin.primes import parting_prime
from evenkin.steps import steps_total
from evenkin.weaves import unlike_steps

# More than two webs have pairs, and so much that unlike totals seldom leave like rests.
LEAST_PRIME = 1000003


def parting_steps(web, other):
    if same_kin(web, other):
        return None
    return unlike_steps(web, other, parting_prime(in_one_list(web[1] + other[1]), LEAST_PRIME))


def held_by_pairs(web, other):
    steps = parting_steps(web, other)
    if steps is None:
        return ("alike",) + kinds_together(web, other)
    return ("unlike", steps, steps_total(web, steps), steps_total(other, steps))


def look_pairs(web, other, paper):
    if paper[0] == "alike":
        return are_kin(web, other, paper[1], paper[2]) and as_many_of_each(paper[1], paper[2])
    if paper[2] == paper[3]:
        return False
    return steps_total(web, paper[1]) == paper[2] and steps_total(other, paper[1]) == paper[3]
