import random
import unittest

from allornothing.errors import InvalidRow
from allornothing.rows import kernel, product, reduced
from allornothing.spaces import Space
from test_rows import rank, samples, spans

NO_WIDTHS = (0, -1, -10 ** 59, True, False, None, '2', 2.0, (2,), [2], {}, b'2', object())
NO_ROWS = ([1, 2], (1,), (1, 2, 3), (), (1, True), (False, 0), (1, 2.0), (1, None), ('1', '2'), 'ab', None, 5, True, {1: 2, 2: 3},
           range(2), ((1, 2), 3), (1, [2]), ((1, 2),), b'ab', object())


class TestSpace(unittest.TestCase):
    def test_example(self):
        space = Space(3, [(2, 4, 0), (3, 6, -3)])
        self.assertEqual(space.rows, [(1, 2, 0), (0, 0, 1)])
        self.assertIs((1, 2, 5) in space, True)
        self.assertIs((1, 1, 0) in space, False)
        self.assertEqual([product(row, (1, 2, 5)) for row in kernel(space.rows, 3)], [0])

    def test_parts(self):
        for rows, width in samples():
            given = list(rows)
            space = Space(width, rows)
            self.assertEqual(rows, given)
            self.assertEqual(space.width, width)
            self.assertEqual(space.rows, reduced(rows, width))
            self.assertEqual(len(space), rank(rows))
            self.assertIs(bool(space), rank(rows) > 0)
        self.assertEqual(Space(rows=[(2, 2)], width=2).rows, [(1, 1)])

    def test_copies(self):
        rows = [(1, 0)]
        space = Space(2, rows)
        rows.append((0, 1))
        told = space.rows
        told.append((0, 1))
        told[0] = (5, 5)
        self.assertEqual(space.rows, [(1, 0)])
        self.assertIsNot(space.rows, space.rows)
        self.assertEqual(len(space), 1)

    def test_stands_in_the_class(self):
        for name in ('width', 'rows'):
            self.assertIsInstance(vars(Space)[name], property)
        for name in ('__contains__', '__len__', '__bool__', '__eq__', '__or__', 'is_within'):
            self.assertIn(name, vars(Space))

    def test_contains(self):
        chosen = random.Random(3)
        there = 0
        for rows, width in samples():
            space = Space(width, rows)
            for row in rows + space.rows + [(0,) * width]:
                self.assertIn(row, space)
                self.assertNotIn(list(row), space)
                self.assertNotIn(row + (0,), space)
                self.assertNotIn(row[:-1], space)
            for _ in range(3):
                row = tuple(chosen.randint(-2, 2) for _ in range(width))
                self.assertIs(row in space, spans(rows, row))
                there += row in space
        self.assertGreater(there, 100)

    def test_contains_rational_multiples(self):
        space = Space(2, [(4, 6)])
        for row, there in (((2, 3), True), ((-2, -3), True), ((6, 9), True), ((1, 1), False), ((2, 0), False), ((0, 0), True),
                           ((2 * 10 ** 58, 3 * 10 ** 58), True), ((2 * 10 ** 58, 3 * 10 ** 58 + 1), False)):
            self.assertIs(row in space, there)
        half = Space(3, [(2, 0, 1), (0, 2, 1)])
        self.assertIn((1, 1, 1), half)
        self.assertNotIn((1, 0, 0), half)

    def test_contains_any_value(self):
        for space in (Space(2, []), Space(2, [(1, 0), (0, 1)])):
            for value in NO_ROWS:
                self.assertIs(value in space, False)

    def test_equal(self):
        one = Space(2, [(1, 2), (2, 1)])
        self.assertTrue(one == Space(2, [(1, 0), (5, 5)]))
        self.assertFalse(one != Space(2, [(1, 0), (5, 5)]))
        self.assertFalse(one == Space(2, [(1, 0)]))
        self.assertFalse(Space(1, []) == Space(2, []))
        self.assertTrue(Space(2, []) == Space(2, [(0, 0)]))
        for value in (None, [(1, 0), (0, 1)], 2, True, one.rows, 'x', (2, one.rows), object()):
            self.assertFalse(one == value)
            self.assertTrue(one != value)

    def test_or(self):
        chosen = random.Random(4)
        tests = list(samples())
        for rows, width in tests:
            more = [tuple(chosen.randint(-2, 2) for _ in range(width)) for _ in range(chosen.randint(0, 2))]
            one, other = Space(width, rows), Space(width, more)
            both = one | other
            self.assertIsInstance(both, Space)
            self.assertEqual(both.rows, reduced(rows + more, width))
            self.assertEqual(both.width, width)
            self.assertEqual((one.rows, other.rows), (reduced(rows, width), reduced(more, width)))
            self.assertTrue(one.is_within(both))
            self.assertTrue(other.is_within(both))
            self.assertIs(one.is_within(other), all(spans(more, row) for row in rows))
            self.assertIs(both.is_within(one), both == one)

    def test_is_within(self):
        plane, line, none = Space(3, [(1, 0, 0), (0, 1, 0)]), Space(3, [(2, 3, 0)]), Space(3, [])
        for one, other, wanted in ((line, plane, True), (plane, line, False), (none, line, True), (line, none, False),
                                   (none, none, True), (plane, plane, True), (Space(3, [(0, 0, 1)]), plane, False)):
            self.assertIs(one.is_within(other=other), wanted)


class TestErrors(unittest.TestCase):
    def test_widths(self):
        for width in NO_WIDTHS:
            for rows in ([], [(1, 2)], [None]):
                with self.assertRaises(InvalidRow) as caught:
                    Space(width, rows)
                self.assertIs(caught.exception.value, width)

    def test_rows(self):
        for value in NO_ROWS:
            for rows in ([value], [(1, 2), value], [(1, 2), (0, 0), value, None, (1,)]):
                with self.assertRaises(InvalidRow) as caught:
                    Space(2, rows)
                self.assertIs(caught.exception.value, value)

    def test_no_space_of_this_width(self):
        space = Space(2, [(1, 2)])
        for value in NO_ROWS + (Space(1, []), Space(3, [(1, 2, 3)]), (1, 2), [(1, 2)]):
            with self.assertRaises(InvalidRow) as caught:
                space.is_within(value)
            self.assertIs(caught.exception.value, value)
            with self.assertRaises(InvalidRow) as caught:
                space | value
            self.assertIs(caught.exception.value, value)
        self.assertEqual(space.rows, [(1, 2)])
