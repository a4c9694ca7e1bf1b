"""Answers by a tree: counted without being listed, told by their place, and found again."""

from joinwood.errors import NoAnswer
from joinwood.joins import cells_of
from joinwood.questions import letters_of


def children_of(parents, i):
    return [child for child, parent in enumerate(parents) if parent == i]


def walk(parents):
    found = []
    waiting = [parents.index(None)]
    while waiting:
        i = waiting.pop()
        found.append(i)
        # The last one that waits comes next: so the child with the least number is put there last.
        waiting.extend(children_of(parents, i)[::-1])
    return found


def bond_of(shape, parents, i):
    if parents[i] is None:
        return []
    above = shape[parents[i]]
    return [letter for letter in shape[i] if letter in above]


def cells_at(known, letters):
    return tuple([known[letter] for letter in letters])


def picked(options, n):
    for row, ways in options:
        if n < ways:
            return (row, n)
        n = n - ways
    raise NoAnswer("there is no answer at this place")


# What hangs beneath a pattern has letters in common with the rest of the tree only through the pattern's own. So
# beneath each row the children can be counted apart from one another, and the numbers multiplied. A fan keeps a
# pattern's rows by the cells that they share with the parent, in order, each with the ways to go on beneath it.
class Tally:
    def __init__(self, shape, rows, parents):
        self.shape = shape
        self.root = parents.index(None)
        self.children = [children_of(parents, i) for i in range(len(parents))]
        self.bonds = [bond_of(shape, parents, i) for i in range(len(parents))]
        self.fans = [{} for i in range(len(parents))]
        for i in reversed(walk(parents)):
            self.fans[i] = self.fan_of(i, rows[i])

    def fan_of(self, i, table):
        fan = {}
        for row in table:
            known = dict(zip(self.shape[i], row))
            alike = fan.setdefault(cells_at(known, self.bonds[i]), [])
            alike.append((row, self.ways_beneath(i, known)))
        return fan

    def options(self, i, known):
        return self.fans[i].get(cells_at(known, self.bonds[i]), [])

    def ways(self, i, known):
        return sum([ways for row, ways in self.options(i, known)])

    def ways_beneath(self, i, known):
        product = 1
        for child in self.children[i]:
            product = product * self.ways(child, known)
        return product

    # The last child's rows change soonest from one answer to the next: its place is what is left over first.
    def choose(self, i, known, n):
        found = picked(self.options(i, known), n)
        known.update(dict(zip(self.shape[i], found[0])))
        left = found[1]
        for child in reversed(self.children[i]):
            size = self.ways(child, known)
            self.choose(child, known, left % size)
            left = left // size

    def place_of(self, i, known):
        own = cells_at(known, self.shape[i])
        earlier = sum([ways for row, ways in self.options(i, known) if row < own])
        within = 0
        for child in self.children[i]:
            within = within * self.ways(child, known) + self.place_of(child, known)
        return earlier + within


def count(shape, rows, parents):
    tally = Tally(shape, rows, parents)
    return tally.ways(tally.root, {})


# The words of the refusals leave out the place and the cells: Python writes out no number of many thousand figures.
def nth(shape, rows, parents, n):
    if n < 0:
        raise NoAnswer("there is no answer at a place below 0")
    tally = Tally(shape, rows, parents)
    known = {}
    tally.choose(tally.root, known, n)
    return cells_at(known, letters_of(shape))


def is_answer(shape, rows, cells):
    letters = letters_of(shape)
    if len(cells) != len(letters):
        return False
    return all([cells_of(cells, letters, own) in table for own, table in zip(shape, rows)])


def place(shape, rows, parents, answer):
    if not is_answer(shape, rows, answer):
        raise NoAnswer("this is no answer")
    tally = Tally(shape, rows, parents)
    return tally.place_of(tally.root, dict(zip(letters_of(shape), answer)))
