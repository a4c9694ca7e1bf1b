"""The desk: it keeps tables, is told rows of text, and answers each."""

from joinwood.counts import count
from joinwood.errors import NoRow
from joinwood.questions import answers, rows_of, shape_of
from joinwood.texts import read_name, read_question, read_rows, show_rows
from joinwood.trees import apart
from joinwood.weights import bound

ASKING = ("ask", "count", "shape", "bound")


def parted(text):
    parts = text.partition(" ")
    if parts[1] == "":
        raise NoRow("a space is missing")
    return (parts[0], parts[2])


# Where there is a tree there may be far more answers than can be listed.
def how_many(shape, rows):
    taken = apart(shape)
    if taken[0] == "tree":
        return count(shape, rows, taken[1])
    return len(answers(shape, rows))


def show_bound(shape, rows):
    told = bound(shape, rows)
    return " ".join([str(number) for number in told])


def reply(word, tables, question):
    shape = shape_of(question)
    if word == "shape":
        return apart(shape)[0]
    rows = rows_of(tables, question)
    if word == "ask":
        return show_rows(answers(shape, rows))
    if word == "count":
        return str(how_many(shape, rows))
    return show_bound(shape, rows)


class Desk:
    def __init__(self):
        self.tables = {}

    def say(self, row):
        if not isinstance(row, str):
            raise NoRow("a row is a text")
        parts = parted(row)
        if parts[0] == "table":
            return self.keep(parts[1])
        if parts[0] not in ASKING:
            raise NoRow("a row begins with table, ask, count, shape or bound")
        return reply(parts[0], self.tables, read_question(parts[1]))

    def keep(self, told):
        parts = parted(told)
        name = read_name(parts[0])
        self.tables[name] = read_rows(parts[1])
        return "ok"
