"""What the tests hold the program against: the document's words, tried out in the most simple-minded way."""

import functools
import itertools
import random

from joinwood.errors import JoinError, NoAnswer, NoRow, NoTable, NoText, NoWidth

REFUSALS = [NoTable, NoWidth, NoAnswer, NoText, NoRow]

BIG = int("9" * 60)

TREE_SHAPES = ["A", "DBCA", "AB BC", "CB BA", "A B", "AB CD", "AB BA", "AB AB A", "ABC AB A", "C CBA BC", "AB BC CD",
               "BC AB CD", "AB AC AD", "A B C", "AB C BD", "AB BC CD DE", "AF BF CF DF", "BA CB DC AD ABCD"]


def refused_with(test, refusal, asked):
    """Asks, and holds what is raised against the refusals of the interface."""
    with test.assertRaises(JoinError) as caught:
        asked()
    test.assertIs(type(caught.exception), refusal)
    test.assertIsInstance(caught.exception, ValueError)
    for other in REFUSALS:
        test.assertEqual(isinstance(caught.exception, other), other is refusal)


def pattern_list(text):
    """A shape from a text such as "AB BC CA"."""
    return [tuple(word) for word in text.split()]


def letters_in(shape):
    return sorted({letter for letters in shape for letter in letters})


def answers_by_trial(shape, rows):
    """Each choice of cells for the letters, held against each pattern [6]."""
    letters = letters_in(shape)
    cells = []
    for letter in letters:
        seen = {row[p.index(letter)] for p, table in zip(shape, rows) if letter in p for row in table}
        cells.append(sorted(seen))
    found = []
    for choice in itertools.product(*cells):
        at = dict(zip(letters, choice))
        if all(tuple(at[letter] for letter in p) in table for p, table in zip(shape, rows)):
            found.append(choice)
    return found


def parts_by_trial(shape, rows, order, place):
    """Each choice of cells for the first letters of the order, held against each pattern [15]."""
    first = order[:place]
    cells = []
    for letter in first:
        cells.append(sorted({row[p.index(letter)] for p, table in zip(shape, rows) if letter in p for row in table}))
    found = []
    for choice in itertools.product(*cells):
        at = dict(zip(first, choice))
        if all(any(all(at.get(letter, cell) == cell for letter, cell in zip(p, row)) for row in table)
               for p, table in zip(shape, rows)):
            found.append(choice)
    return found


def along(shape, order, answer):
    """An answer with its cells put in the order's letters."""
    at = dict(zip(letters_in(shape), answer))
    return tuple(at[letter] for letter in order)


def leads_to_root(parents):
    """Whether all numbers of parents are other patterns' and lead to the one root [7]."""
    if parents.count(None) != 1:
        return False
    for i, parent in enumerate(parents):
        if parent is not None and (parent == i or parent not in range(len(parents))):
            return False
        at = i
        for step in parents:
            at = at if parents[at] is None else parents[at]
        if parents[at] is not None:
            return False
    return True


def hangs_together(shape, parents):
    """Whether, of each letter's patterns, all but one have a parent that has it [7]."""
    for letter in letters_in(shape):
        having = [i for i, letters in enumerate(shape) if letter in letters]
        beneath = [i for i in having if parents[i] is not None and letter in shape[parents[i]]]
        if len(beneath) != len(having) - 1:
            return False
    return True


def is_tree(shape, parents):
    return len(parents) == len(shape) and leads_to_root(parents) and hangs_together(shape, parents)


@functools.lru_cache(maxsize=None)
def kept_parents(size):
    choices = [None] + list(range(size))
    return [parents for parents in itertools.product(choices, repeat=size) if leads_to_root(list(parents))]


def all_parents(size):
    """All lists of parents of so many patterns that lead to one root."""
    return [list(parents) for parents in kept_parents(size)]


def trees_of(shape):
    """All trees of the shape, of whatever root [7]."""
    return [parents for parents in all_parents(len(shape)) if hangs_together(shape, parents)]


def some_trees(draw, shape, most):
    """All trees of the shape or, where there are more, so many of them."""
    trees = trees_of(shape)
    return draw.sample(trees, min(most, len(trees)))


def walk_beneath(parents, i):
    """The pattern, and all that hangs beneath it, as [10] tells."""
    found = [i]
    for child in range(len(parents)):
        if parents[child] == i:
            found += walk_beneath(parents, child)
    return found


def row_in(shape, i, answer):
    """The row of pattern i that the answer has."""
    at = dict(zip(letters_in(shape), answer))
    return tuple(at[letter] for letter in shape[i])


def in_order_of(shape, parents, told):
    """The answers told, in the order that they have by the tree [10]."""
    walked = walk_beneath(parents, parents.index(None))
    return sorted(told, key=lambda answer: [row_in(shape, i, answer) for i in walked])


def can_be_done(left, step):
    """Whether the step can be done [8]; left is a dict from patterns' numbers to sets of letters."""
    if step[0] == "letter":
        return len(step) == 2 and len([i for i in left if step[1] in left[i]]) == 1
    return (step[0] == "pattern" and len(step) == 3 and step[1] != step[2]
            and step[1] in left and step[2] in left and left[step[1]] <= left[step[2]])


def after(left, step):
    if step[0] == "letter":
        return {i: letters - {step[1]} for i, letters in left.items()}
    return {i: letters for i, letters in left.items() if i != step[1]}


def steps_to_try(left):
    letters = {letter for owned in left.values() for letter in owned}
    return [("letter", letter) for letter in letters] + [("pattern", i, j) for i in left for j in left]


def small_shapes(letters, size):
    """All shapes of so many patterns over the letters, but for the order of patterns and of letters."""
    patterns = [p for n in range(1, len(letters) + 1) for p in itertools.combinations(letters, n)]
    return [list(shape) for shape in itertools.combinations_with_replacement(patterns, size)]


def ring(size):
    """A ring of so many patterns of two letters each."""
    letters = "ABCDEF"[:size]
    return [(letters[i], letters[(i + 1) % size]) for i in range(size)]


def drawn_shape(draw, size, letters="ABCDEF"):
    widest = min(4, len(letters))
    return [tuple(draw.sample(letters, draw.randint(1, widest))) for i in range(size)]


def drawn_tree_shape(draw, size, letters="ABCDEF"):
    """A shape that has a tree: each pattern but the first takes some letters of one ahead of it, and new ones."""
    fresh = draw.sample(letters, len(letters))
    shape = [[fresh.pop() for turn in range(draw.randint(1, 3))]]
    while len(shape) < size:
        above = draw.choice(shape)
        pattern = draw.sample(above, draw.randint(0, min(3, len(above))))
        while fresh and len(pattern) < 4 and (not pattern or draw.random() < 0.4):
            pattern.append(fresh.pop())
        shape.append(pattern or above[:1])
    return [tuple(draw.sample(pattern, len(pattern))) for pattern in draw.sample(shape, len(shape))]


def drawn_rows(draw, shape, most, cells):
    rows = []
    for letters in shape:
        table = {tuple(draw.choice(cells) for letter in letters) for i in range(draw.randint(0, most))}
        rows.append(sorted(table))
    return rows


def source(seed):
    return random.Random(seed)
