"""Parts of answers, grown letter by letter."""


def cells_of(row, letters, wanted):
    return tuple([row[letters.index(letter)] for letter in wanted])


# A guide tells, for the cells of the pattern's earlier letters, which cells its next letter can have.
def guide_of(letters, rows, earlier, letter):
    known = [name for name in letters if name in earlier]
    place = letters.index(letter)
    choices = {}
    for row in rows:
        cells = choices.setdefault(cells_of(row, letters, known), {})
        cells[row[place]] = True
    return (known, choices)


def longer(parts, earlier, guides):
    grown = []
    for part in parts:
        choices = [found.get(cells_of(part, earlier, known), {}) for known, found in guides]
        # One pattern may leave sixty cells and another one none: the fewest choices are walked.
        for cell in min(choices, key=len):
            if all([cell in cells for cells in choices]):
                grown.append(part + (cell,))
    return grown


def parts_along(shape, rows, order):
    parts = [()] if all(rows) else []
    for place, letter in enumerate(order):
        earlier = order[:place]
        guides = []
        for letters, table in zip(shape, rows):
            if letter in letters:
                guides.append(guide_of(letters, table, earlier, letter))
        parts = longer(parts, earlier, guides)
    return parts
