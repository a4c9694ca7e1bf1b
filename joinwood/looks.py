"""Looks up and down a tree: the rows that stand in an answer, and an answer through a row."""

from joinwood.counts import nth, walk
from joinwood.errors import NoAnswer
from joinwood.joins import cells_of


def held_by(shape, rows, i, other):
    shared = [letter for letter in shape[i] if letter in shape[other]]
    seen = {}
    for row in rows[other]:
        seen[cells_of(row, shape[other], shared)] = True
    return [row for row in rows[i] if cells_of(row, shape[i], shared) in seen]


# The look up leaves the root only rows that all beneath it hold, and the look down tells the others which of the
# root's are left. One of them alone would leave rows that hang loose through a pattern further away.
def reduced(shape, rows, parents):
    left = [list(table) for table in rows]
    beneath = walk(parents)[1:]
    for i in reversed(beneath):
        left[parents[i]] = held_by(shape, left, parents[i], i)
    for i in beneath:
        left[i] = held_by(shape, left, i, parents[i])
    return left


def through(shape, rows, parents, i, row):
    narrowed = list(rows)
    narrowed[i] = [own for own in rows[i] if own == row]
    try:
        return nth(shape, narrowed, parents, 0)
    except NoAnswer:
        return None
