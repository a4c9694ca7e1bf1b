"""Answers letter by letter along an order, and the counts of their parts on the way."""

from joinwood.joins import parts_along


def levels(shape, rows, order):
    return [len(parts) for parts in parts_along(shape, rows, order)]


def by_letters(shape, rows, order):
    return sorted(parts_along(shape, rows, order)[-1])
