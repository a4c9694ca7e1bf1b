"""Parts of answers, grown letter by letter."""


def cells_of(row, letters, wanted):
    return tuple([row[letters.index(letter)] for letter in wanted])


# A guide tells, for the cells of the pattern's earlier letters, which cells its next letter can have.
def guide_of(letters, rows, earlier, letter):
    known = [name for name in letters if name in earlier]
    place = letters.index(letter)
    choices = {}
    for row in rows:
        cells = choices.setdefault(cells_of(row, letters, known), {})
        cells[row[place]] = True
    return (known, choices)


def longer(parts, earlier, guides):
    grown = []
    for part in parts:
        choices = [found.get(cells_of(part, earlier, known), {}) for known, found in guides]
        # One pattern may leave sixty cells and another one none: the fewest choices are walked.
        for cell in min(choices, key=len):
            if all([cell in cells for cells in choices]):
                grown.append(part + (cell,))
    return grown


def guides_to(shape, rows, earlier, letter):
    return [guide_of(own, table, earlier, letter) for own, table in zip(shape, rows) if letter in own]


# For each place of the order, from 0 on, the list of the parts up to there.
def parts_along(shape, rows, order):
    found = [[()] if all(rows) else []]
    for place, letter in enumerate(order):
        earlier = order[:place]
        found.append(longer(found[-1], earlier, guides_to(shape, rows, earlier, letter)))
    return found
