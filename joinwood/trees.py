"""Shapes taken apart step by step, to a tree of their patterns or to a core."""


def letter_step(left):
    for letters in left.values():
        for letter in letters:
            owners = [i for i in left if letter in left[i]]
            if len(owners) == 1:
                return ("letter", letter)
    return None


def pattern_step(left):
    for i in left:
        for j in left:
            if i != j and all([letter in left[j] for letter in left[i]]):
                return ("pattern", i, j)
    return None


def any_step(left):
    if len(left) < 2:
        return None
    return letter_step(left) or pattern_step(left)


def do_step(left, step):
    if step[0] == "pattern":
        left.pop(step[1])
        return
    for i in list(left):
        left[i] = tuple([letter for letter in left[i] if letter != step[1]])


def taken_apart(shape):
    left = dict(enumerate(shape))
    steps = []
    step = any_step(left)
    while step is not None:
        do_step(left, step)
        steps.append(step)
        step = any_step(left)
    return (steps, [(i, tuple(left[i])) for i in left])


# A letter is taken from one pattern alone, and a pattern goes out beneath one that has all it still has:
# so each letter's patterns hang together beneath the one that the letter was taken from.
def parents_by(steps, size):
    parents = [None for i in range(size)]
    for step in steps:
        if step[0] == "pattern":
            parents[step[1]] = step[2]
    return parents


def apart(shape):
    done = taken_apart(shape)
    if len(done[1]) == 1:
        return ("tree", parents_by(done[0], len(shape)))
    return ("core", done[0], done[1])
