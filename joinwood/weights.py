"""Weights of a shape's patterns and prices of its letters, the bound that they make, and rows that come to it."""

from joinwood.questions import letters_of


def first_lines(shape, letters):
    lines = []
    for i, own in enumerate(shape):
        has = [1 if letter in own else 0 for letter in letters]
        spare = [1 if j == i else 0 for j in range(len(shape))]
        lines.append(has + spare + [1])
    lines.append([-1 for letter in letters] + [0 for own in shape] + [0])
    return lines


# The prices are raised from 0 on, those of each pattern to no more than 1 together, until their sum can grow no more
# (the simplex method). A line for each pattern tells what it has to spare, and the last one what each column would
# still bring to the sum: at the end, under a pattern's spare column, this is the pattern's weight. All numbers are
# kept as whole ones over one bottom, by which each turn divides without a rest.
class Board:
    def __init__(self, shape):
        letters = letters_of(shape)
        self.width = len(letters)
        self.bottom = 1
        self.lines = first_lines(shape, letters)
        self.held = [self.width + i for i in range(len(shape))]

    # The first column that brings something, and of lines that end alike the one that holds the first column
    # (Bland's rule): with other choices the turns could come round to where they were.
    def column_to_raise(self):
        for column, gain in enumerate(self.lines[-1]):
            if gain < 0:
                return column
        return None

    def ends_sooner(self, i, j, column):
        one = self.lines[i][-1] * self.lines[j][column]
        other = self.lines[j][-1] * self.lines[i][column]
        return (one, self.held[i]) < (other, self.held[j])

    def line_that_ends(self, column):
        found = None
        for i in range(len(self.held)):
            if self.lines[i][column] > 0 and (found is None or self.ends_sooner(i, found, column)):
                found = i
        return found

    def without(self, line, turned, column):
        return [(cell * turned[column] - line[column] * other) // self.bottom for cell, other in zip(line, turned)]

    def turn(self, i, column):
        turned = self.lines[i]
        lines = [self.without(line, turned, column) for line in self.lines]
        lines[i] = turned
        self.lines = lines
        self.held[i] = column
        self.bottom = turned[column]

    def settle(self):
        column = self.column_to_raise()
        while column is not None:
            self.turn(self.line_that_ends(column), column)
            column = self.column_to_raise()

    def price(self, column):
        return self.lines[self.held.index(column)][-1] if column in self.held else 0

    def prices(self):
        return [self.price(column) for column in range(self.width)]

    def worths(self):
        return self.lines[-1][self.width:-1]


def greatest_divisor(numbers):
    found = 0
    for number in numbers:
        rest = number
        while rest != 0:
            last = rest
            rest = found % last
            found = last
    return found


def weights(shape):
    board = Board(shape)
    board.settle()
    shared = greatest_divisor([board.bottom] + board.worths() + board.prices())
    w = [worth // shared for worth in board.worths()]
    y = [price // shared for price in board.prices()]
    return (board.bottom // shared, w, y)


def power(base, exponent):
    product = 1
    for turn in range(exponent):
        product = product * base
    return product


def bound(shape, rows):
    told = weights(shape)
    product = 1
    for weight, table in zip(told[1], rows):
        product = product * power(len(table), weight)
    return (told[0], product)


def all_rows(sizes):
    rows = [()]
    for size in sizes:
        grown = []
        for row in rows:
            grown.extend([row + (cell,) for cell in range(size)])
        rows = grown
    return rows


def filled(shape, m):
    prices = dict(zip(letters_of(shape), weights(shape)[2]))
    return [all_rows([power(m, prices[letter]) for letter in letters]) for letters in shape]
