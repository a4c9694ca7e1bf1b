"""[2] and [3]: what holds over the whole program."""

import copy
import itertools
import unittest

from helpers import (along, drawn_rows, drawn_shape, drawn_tree_shape, in_order_of, is_tree, letters_in, pattern_list,
                     refused_with, ring, row_in, some_trees, source)
from joinwood.counts import count, nth, place, walk
from joinwood.desk import Desk
from joinwood.errors import NoAnswer
from joinwood.looks import reduced, through
from joinwood.parts import by_letters, levels
from joinwood.questions import answers, letters_of, rows_of, shape_of
from joinwood.texts import read_question, read_rows, show_question, show_rows
from joinwood.trees import apart
from joinwood.weights import bound, filled, weights


def drawn_pairs(draw, size, letters):
    """A shape of narrow patterns: of these many have a core."""
    return [tuple(draw.sample(letters, draw.choice([2, 2, 3]))) for i in range(max(3, size))]


def thick_rows(draw, shape, cells):
    """Most of the rows that there can be with these cells."""
    choices = [itertools.product(sorted(cells), repeat=len(letters)) for letters in shape]
    return [[row for row in table if draw.random() < 0.75] for table in choices]


class EachAgainstTheOthers(unittest.TestCase):
    def along_orders(self, draw, shape, rows, plain):
        d, product = bound(shape, rows)
        self.assertLessEqual(len(plain) ** d, product, (shape, rows))
        letters = letters_in(shape)
        for order in [letters, letters[::-1], draw.sample(letters, len(letters))]:
            told = by_letters(shape, rows, order)
            self.assertEqual(told, sorted(along(shape, order, answer) for answer in plain), (shape, rows, order))
            counts = levels(shape, rows, order)
            self.assertEqual((counts[0], counts[-1], len(counts)), (int(all(rows)), len(plain), len(order) + 1))
            self.assertLessEqual(max(counts) ** d, product, (shape, rows, order))

    def by_tree(self, shape, rows, parents, plain):
        self.assertTrue(is_tree(shape, parents))
        ordered = in_order_of(shape, parents, plain)
        self.assertEqual(count(shape, rows, parents), len(plain))
        self.assertEqual([nth(shape, rows, parents, n) for n in range(len(plain))], ordered)
        for n in [-1, len(plain)]:
            refused_with(self, NoAnswer, lambda: nth(shape, rows, parents, n))
        for answer in ordered[:3] + ordered[-3:]:
            self.assertEqual(place(shape, rows, parents, answer), ordered.index(answer))
        standing = [sorted({row_in(shape, i, answer) for answer in plain}) for i in range(len(shape))]
        left = reduced(shape, rows, parents)
        self.assertEqual(left, standing)
        self.assertEqual(answers(shape, left), plain)

    def hold(self, draw, shape, rows):
        plain = answers(shape, rows)
        self.along_orders(draw, shape, rows, plain)
        taken = apart(shape)
        if taken[0] == "tree":
            for parents in [taken[1]] + some_trees(draw, shape, 2):
                self.by_tree(shape, rows, parents, plain)
        return (taken[0], len(plain) > 1)

    def test_drawn_shapes(self):
        draw = source(71)
        seen = {}
        for turn in range(500):
            make = draw.choice([drawn_shape, drawn_tree_shape, drawn_pairs])
            shape = make(draw, draw.randint(1, 6), draw.choice(["ABCDEF", "QXMZ", "ABCDE"]))
            thin = drawn_rows(draw, shape, draw.choice([3, 10, 40]), draw.choice([[0, 1], [-2, 0, 7]]))
            rows = draw.choice([thin, thick_rows(draw, shape, [-4, 9])])
            kind = self.hold(draw, shape, rows)
            seen[kind] = seen.get(kind, 0) + 1
        self.assertEqual(len(seen), 4)
        self.assertGreater(min(seen.values()), 20, seen)

    def test_full_rows(self):
        draw = source(72)
        reached = 0
        for turn in range(120):
            shape = drawn_shape(draw, draw.randint(1, 6), draw.choice(["ABCDEF", "ABCD"]))
            d, w, y = weights(shape)
            for m in range(2, 5):
                if m ** d <= 60 and m ** sum(w) <= 300:
                    rows = filled(shape, m)
                    self.hold(draw, shape, rows)
                    self.assertEqual(len(answers(shape, rows)) ** d, bound(shape, rows)[1])
                    reached += 1
        self.assertGreater(reached, 100)

    def test_rings(self):
        draw = source(73)
        for size in range(2, 7):
            for turn in range(12):
                self.hold(draw, ring(size), drawn_rows(draw, ring(size), 20, list(range(4))))


class GivenAndHandedIn(unittest.TestCase):
    """Each function, asked twice: what the first answer gave is spoilt in between."""

    tables = {"t": [(2, 3), (1, 2), (2, 3)], "u": [(3, 1), (2, 2)]}
    question = [("t", ("A", "B")), ("u", ("B", "C")), ("t", ("A", "B"))]
    shape = pattern_list("AB BC AB")
    rows = [[(1, 2), (2, 3)], [(2, 2), (3, 1)], [(1, 2), (2, 3)]]
    parents = [None, 0, 0]
    order = ["C", "A", "B"]

    def all_calls(self):
        return [(shape_of, [self.question]), (letters_of, [self.shape]), (rows_of, [self.tables, self.question]),
                (answers, [self.shape, self.rows]), (apart, [self.shape]), (apart, [ring(4)]),
                (reduced, [self.shape, self.rows, self.parents]),
                (through, [self.shape, self.rows, self.parents, 1, (3, 1)]), (walk, [self.parents]),
                (count, [self.shape, self.rows, self.parents]), (nth, [self.shape, self.rows, self.parents, 1]),
                (place, [self.shape, self.rows, self.parents, (1, 2, 2)]), (weights, [self.shape]),
                (bound, [self.shape, self.rows]), (filled, [self.shape, 3]),
                (levels, [self.shape, self.rows, self.order]), (by_letters, [self.shape, self.rows, self.order]),
                (read_question, ["t A B, u B C"]), (show_question, [self.question]), (read_rows, ["2 3; 1 2"]),
                (show_rows, [self.rows[0]])]

    def lists_in(self, given):
        found = [given] if isinstance(given, list) else []
        parts = given.values() if isinstance(given, dict) else given if isinstance(given, (list, tuple)) else []
        return found + [part for inner in parts for part in self.lists_in(inner)]

    def spoil(self, given):
        for part in self.lists_in(given):
            part.append("spoilt")

    def test_nothing_handed_in_is_changed_nor_given(self):
        for asked, handed in self.all_calls():
            with self.subTest(asked.__name__):
                handed = copy.deepcopy(handed)
                before = copy.deepcopy(handed)
                given = asked(*handed)
                self.assertEqual(handed, before)
                own = self.lists_in(given)
                self.assertEqual(len({id(part) for part in own}), len(own))
                for part, other in itertools.product(own, self.lists_in(handed)):
                    self.assertIsNot(part, other)

    def test_what_is_given_is_the_asker_s_own(self):
        for asked, handed in self.all_calls():
            with self.subTest(asked.__name__):
                handed = copy.deepcopy(handed)
                before = copy.deepcopy(handed)
                given = asked(*handed)
                kept = copy.deepcopy(given)
                again = asked(*handed)
                self.assertEqual(again, kept)
                self.spoil(given)
                self.assertEqual(handed, before)
                self.assertEqual(again, kept)
                self.assertEqual(asked(*handed), kept)

    def test_what_becomes_of_the_handed_in_does_not_change_the_given(self):
        for asked, handed in self.all_calls():
            with self.subTest(asked.__name__):
                handed = copy.deepcopy(handed)
                given = asked(*handed)
                kept = copy.deepcopy(given)
                self.spoil(handed)
                self.assertEqual(given, kept)

    def test_truths_are_never_told_for_whole_numbers(self):
        for asked, handed in self.all_calls():
            with self.subTest(asked.__name__):
                self.assertNotIn(bool, self.kinds_in(asked(*copy.deepcopy(handed))))

    def kinds_in(self, given):
        if isinstance(given, (list, tuple)):
            return {kind for part in given for kind in self.kinds_in(part)}
        return {type(given)}


class FromTextsOn(unittest.TestCase):
    def test_a_question_from_its_text_to_its_answers(self):
        question = read_question("knows A B, knows B C, likes C D")
        tables = {"knows": read_rows("2 3; 1 2; 3 1"), "likes": read_rows("3 5; 1 6")}
        shape, rows = shape_of(question), rows_of(tables, question)
        plain = answers(shape, rows)
        self.assertEqual(plain, [(1, 2, 3, 5), (2, 3, 1, 6)])
        desk = Desk()
        for name, table in tables.items():
            desk.say(f"table {name} {show_rows(table)}")
        self.assertEqual(desk.say("ask " + show_question(question)), "1 2 3 5; 2 3 1 6")
        self.assertEqual(count(shape, rows, apart(shape)[1]), 2)


if __name__ == "__main__":
    unittest.main()
