import fractions
import math
import random
import unittest

from allornothing.errors import InvalidRow
from allornothing.rows import kernel, product, reduced


def rank(rows):
    """The rank of rows, by elimination with fractions."""
    rows = [[fractions.Fraction(number) for number in row] for row in rows]
    found = 0
    width = len(rows[0]) if rows else 0
    for at in range(width):
        for row in rows[found:]:
            if row[at] != 0:
                rows.remove(row)
                rows.insert(found, row)
                break
        else:
            continue
        for row in rows[found + 1:]:
            times = row[at] / rows[found][at]
            for place in range(width):
                row[place] -= times * rows[found][place]
        found += 1
    return found


def spans(rows, row):
    return rank(rows) == rank(rows + [row])


def samples():
    chosen = random.Random(5)
    for _ in range(400):
        width = chosen.randint(1, 5)
        large = chosen.choice((1, 3, 10, 10 ** 59))
        rows = []
        for _ in range(chosen.randint(0, 6)):
            if rows and chosen.random() < 0.5:
                one, other = chosen.choice(rows), chosen.choice(rows)
                times = chosen.randint(-3, 3)
                rows.append(tuple(times * number + 2 * more for number, more in zip(one, other)))
            else:
                rows.append(tuple(chosen.choice((0, 0, 1, chosen.randint(-large, large))) for _ in range(width)))
        yield rows, width


class TestReduced(unittest.TestCase):
    def test_by_hand(self):
        tests = (
            ([], 3, []), ([(0, 0)], 2, []), ([(0,), (-4,), (6,)], 1, [(1,)]), ([(2, 4, 0), (3, 6, -3)], 3, [(1, 2, 0), (0, 0, 1)]),
            ([(0, 0, -5)], 3, [(0, 0, 1)]), ([(0, 3), (2, 0)], 2, [(1, 0), (0, 1)]), ([(-2, 4, 6)], 3, [(1, -2, -3)]),
            ([(2, 0, 1), (0, 3, 1)], 3, [(2, 0, 1), (0, 3, 1)]), ([(0, 3, 1), (2, 3, 2)], 3, [(2, 0, 1), (0, 3, 1)]),
            ([(1, 1, 1), (1, 2, 3), (2, 3, 4)], 3, [(1, 0, -1), (0, 1, 2)]), ([(10 ** 59, 2 * 10 ** 59)], 2, [(1, 2)]),
        )
        for rows, width, wanted in tests:
            given = list(rows)
            self.assertEqual(reduced(rows, width), wanted)
            self.assertEqual(rows, given)
            self.assertEqual(reduced(rows[::-1], width), wanted)
            self.assertEqual(reduced(rows + rows, width), wanted)
            self.assertEqual(reduced(rows=rows, width=width), wanted)

    def test_form(self):
        for rows, width in samples():
            found = reduced(rows, width)
            leads = []
            for row in found:
                self.assertIs(type(row), tuple)
                self.assertTrue(all(type(number) is int for number in row))
                lead = next(at for at, number in enumerate(row) if number != 0)
                self.assertGreater(row[lead], 0)
                self.assertEqual(math.gcd(*row), 1)
                self.assertEqual([other[lead] for other in found if other is not row], [0] * (len(found) - 1))
                leads.append(lead)
            self.assertEqual(leads, sorted(set(leads)))
            self.assertEqual(len(found), rank(rows))
            self.assertTrue(all(spans(rows, row) for row in found))

    def test_same_span_same_rows(self):
        chosen = random.Random(6)
        for rows, width in samples():
            more = list(rows)
            chosen.shuffle(more)
            more = [tuple(times * number for number in row) for row, times in zip(more, (2, -3, 1, -1, 10 ** 30, 7))]
            self.assertEqual(reduced(more, width), reduced(rows, width))
            self.assertEqual(reduced(reduced(rows, width), width), reduced(rows, width))

    def test_new_list(self):
        rows = [(1, 0)]
        found = reduced(rows, 2)
        found.append(5)
        self.assertEqual((rows, reduced(rows, 2)), ([(1, 0)], [(1, 0)]))


class TestKernel(unittest.TestCase):
    def test_by_hand(self):
        self.assertEqual(reduced(kernel([], 2), 2), [(1, 0), (0, 1)])
        self.assertEqual(kernel([(1, 0), (1, 1)], 2), [])
        self.assertEqual(reduced(kernel([(1, 2, 0), (0, 0, 1)], 3), 3), [(2, -1, 0)])
        self.assertEqual(reduced(kernel(rows=[(2, 3)], width=2), 2), [(3, -2)])
        self.assertEqual(reduced(kernel([(0, 0, 0)], 3), 3), [(1, 0, 0), (0, 1, 0), (0, 0, 1)])

    def test_random(self):
        for rows, width in samples():
            given = list(rows)
            found = kernel(rows, width)
            self.assertEqual(rows, given)
            for row in found:
                self.assertIs(type(row), tuple)
                self.assertTrue(all(type(number) is int for number in row))
                self.assertEqual([product(row, other) for other in rows], [0] * len(rows))
            self.assertEqual(rank(found), len(found))
            self.assertEqual(len(found), width - rank(rows))


class TestProduct(unittest.TestCase):
    def test_product(self):
        self.assertEqual(product((1, 2, 3), (4, -5, 6)), 12)
        self.assertEqual(product((0,), (7,)), 0)
        self.assertEqual(product((10 ** 59, 1), (10 ** 59, -1)), 10 ** 118 - 1)
        self.assertEqual(product(one=(2, 3), other=(5, 7)), 31)


class TestErrors(unittest.TestCase):
    def test_no_rows(self):
        for call in (reduced, kernel):
            for value in ([1, 2], (1,), (1, 2, 3), (), (1, True), (False, 0), (1, 2.0), (1, None), ('1', '2'), 'ab', None, 5, True,
                          {1: 2, 2: 3}, range(2), ((1, 2), 3), (1, (2,)), ((1, 2),), b'ab'):
                for rows in ([value], [(1, 2), value], [(1, 2), (0, 0), value, None, (1,)]):
                    with self.assertRaises(InvalidRow) as caught:
                        call(rows, 2)
                    self.assertIs(caught.exception.value, value)
