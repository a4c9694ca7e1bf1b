"""Questions: their shapes, their rows, and their answers the plain way."""

from joinwood.errors import NoTable, NoWidth
from joinwood.joins import cells_of, parts_along


def shape_of(question):
    return [tuple(pattern[1]) for pattern in question]


def letters_of(shape):
    found = []
    for letters in shape:
        found.extend(letters)
    return sorted(set(found))


def rows_for(tables, pattern):
    name = pattern[0]
    if name not in tables:
        raise NoTable(f"there is no table {name}")
    width = len(pattern[1])
    for row in tables[name]:
        if len(row) != width:
            raise NoWidth(f"a row of {name} has not {width} cells")
    return sorted(set(tables[name]))


def rows_of(tables, question):
    return [rows_for(tables, pattern) for pattern in question]


def patterns_with(shape, letter):
    return [i for i, letters in enumerate(shape) if letter in letters]


# A letter of one pattern alone goes with every part that has come so far. Taken last, such letters make no more
# parts than there are answers; taken first, they could make far more than can be held.
def shared_first(shape):
    letters = letters_of(shape)
    shared = [letter for letter in letters if len(patterns_with(shape, letter)) > 1]
    return shared + [letter for letter in letters if letter not in shared]


def answers(shape, rows):
    order = shared_first(shape)
    letters = letters_of(shape)
    return sorted([cells_of(part, order, letters) for part in parts_along(shape, rows, order)[-1]])
