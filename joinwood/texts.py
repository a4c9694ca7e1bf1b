"""Questions and rows as texts: read, and shown."""

from joinwood.errors import NoText
from joinwood.questions import letters_of, shape_of

SMALL = "abcdefghijklmnopqrstuvwxyz"
GREAT = "ABCDEFGHIJKLMNOPQRSTUVWXYZ"
FIGURES = "0123456789"


def only(text, signs):
    return all([sign in signs for sign in text])


def parts_of(text, mark):
    if not isinstance(text, str):
        raise NoText("this is no text")
    return text.split(mark)


def read_name(text):
    if not 1 <= len(text) <= 8 or not only(text, SMALL):
        raise NoText("a name has one to eight letters from a to z")
    return text


def read_letter(text):
    if len(text) != 1 or not only(text, GREAT):
        raise NoText("a letter is one sign from A to Z")
    return text


def read_pattern(text):
    words = text.split(" ")
    name = read_name(words[0])
    letters = tuple([read_letter(word) for word in words[1:]])
    if not 1 <= len(letters) <= 4:
        raise NoText("a pattern has one to four letters")
    if len(set(letters)) < len(letters):
        raise NoText("a pattern has a letter twice")
    return (name, letters)


def read_question(text):
    question = [read_pattern(part) for part in parts_of(text, ", ")]
    if len(question) > 6:
        raise NoText("a question has at most six patterns")
    if len(letters_of(shape_of(question))) > 6:
        raise NoText("a question has at most six letters in all")
    return question


def show_pattern(pattern):
    return " ".join([pattern[0]] + list(pattern[1]))


def show_question(question):
    return ", ".join([show_pattern(pattern) for pattern in question])


def read_cell(text):
    figures = text[1:] if text.startswith("-") else text
    if not 1 <= len(figures) <= 60 or not only(figures, FIGURES):
        raise NoText("a cell is a whole number of at most sixty figures")
    if figures.startswith("0") and text != "0":
        raise NoText("a cell has no noughts ahead, and there is no -0")
    return int(text)


def read_row(text):
    cells = tuple([read_cell(word) for word in text.split(" ")])
    if len(cells) > 6:
        raise NoText("a row has at most six cells")
    return cells


def read_rows(text):
    parts = parts_of(text, "; ")
    if text == "":
        return []
    rows = [read_row(part) for part in parts]
    if len(rows) > 60:
        raise NoText("there are more than sixty rows")
    if any([len(row) != len(rows[0]) for row in rows]):
        raise NoText("the rows have unlike counts of cells")
    return sorted(set(rows))


def show_row(row):
    return " ".join([str(cell) for cell in row])


def show_rows(rows):
    return "; ".join([show_row(row) for row in rows])
