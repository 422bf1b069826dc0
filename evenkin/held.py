"""Two webs held against one another by trees, and the looker at what is told of them."""

from evenkin.parters import parting_tree
from evenkin.rows import total_of
from evenkin.shares import goes_through, table_of
from evenkin.trees import term_of


def held_by_trees(web, other):
    tree = parting_tree(web, other)
    if tree is None:
        return ("alike", table_of(web, other))
    term = term_of(tree)
    return ("unlike", tree, total_of(web, term), total_of(other, term))


def look_trees(web, other, paper):
    if paper[0] == "alike":
        return goes_through(web, other, paper[1])
    if paper[2] == paper[3]:
        return False
    term = term_of(paper[1])
    return total_of(web, term) == paper[2] and total_of(other, term) == paper[3]
