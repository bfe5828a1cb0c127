"""Point 15: bags of rows."""

import random
import unittest

from storedesk.values import Bag, read_value
from tests.support import StoreCase, exact

# In ascending order.
ROWS = ((), (None,), (False,), (True,), (True, 1), (0,), (0, 1), (1,), (1, True), (1, 1), (2,), ("",), ("1",),
        ("a", None))


def count_in(row, rows):
    return [exact(other) for other in rows].count(exact(row))


class TestBag(StoreCase):
    def assertBag(self, bag, rows):
        """The bag holds exactly these rows, whatever way it is asked."""
        rows = [row for row in ROWS for _ in range(count_in(row, rows))]
        self.assertIsInstance(bag, Bag)
        self.assertSame(bag.rows, rows)
        self.assertSame([*bag], rows)
        self.assertSame(len(bag), len(rows))
        self.assertSame(bool(bag), rows != [])
        wanted = []
        for row in ROWS:
            times = count_in(row, rows)
            self.assertSame(bag.many(row), times, row)
            self.assertSame(row in bag, times > 0, row)
            self.assertSame(row not in bag, times == 0, row)
            if times > 0:
                wanted.append((row, times))
        self.assertSame(bag.pairs, wanted)

    def test_empty(self):
        for bag in (Bag(), Bag([]), Bag(()), Bag(rows=[]), Bag.counted([]), Bag.counted(pairs=()), Bag() + Bag(),
                    Bag() - Bag()):
            self.assertBag(bag, [])

    def test_row_without_values(self):
        self.assertBag(Bag([()]), [()])
        self.assertBag(Bag([(), ()]), [(), ()])
        self.assertBag(Bag([(), ()]) - Bag([()]), [()])
        self.assertBag(Bag.counted([((), 3)]), [(), (), ()])

    def test_made_of_rows(self):
        for rows in ([(2,), (1,), (2,)], ((2,), (1,), (2,))):
            self.assertBag(Bag(rows), [(1,), (2,), (2,)])
            self.assertBag(Bag(rows=rows), [(1,), (2,), (2,)])

    def test_truths_are_no_numbers(self):
        bag = Bag([(1,), (True,), (1,), (0,)])
        self.assertSame(bag.pairs, [((True,), 1), ((0,), 1), ((1,), 2)])
        self.assertSame((False,) in bag, False)
        self.assertSame((0,) in bag, True)
        self.assertSame(bag.many((True,)), 1)
        self.assertSame(bag.many((False,)), 0)
        self.assertSame((bag - Bag([(1,)])).pairs, [((True,), 1), ((0,), 1), ((1,), 1)])
        self.assertSame((bag - Bag([(True,), (True,), (False,)])).pairs, [((0,), 1), ((1,), 2)])
        self.assertSame((bag + Bag([(True,)])).pairs, [((True,), 2), ((0,), 1), ((1,), 2)])

    def test_example(self):
        self.assertSame((Bag([(1,), (True,), (1,)]) - Bag([(1,)])).pairs, [((True,), 1), ((1,), 1)])

    def test_counted(self):
        pairs = [((2,), 2), ((1,), 1), ((True,), 3), ((2,), 1), (("",), 0), ((0,), 0), ((0,), 2)]
        rows = [(True,)] * 3 + [(0,)] * 2 + [(1,)] + [(2,)] * 3
        self.assertBag(Bag.counted(pairs), rows)
        self.assertBag(Bag.counted(tuple(pairs)), rows)
        self.assertBag(Bag.counted(pairs=pairs), rows)
        self.assertBag(Bag.counted([((1,), 0), ((1,), 0)]), [])
        self.assertBag(Bag.counted([((1,), 60)]), [(1,)] * 60)
        self.assertBag(Bag.counted(Bag(rows).pairs), rows)

    def test_less(self):
        self.assertBag(Bag([(1,), (1,), (1,)]) - Bag([(1,)]), [(1,), (1,)])
        self.assertBag(Bag([(1,)]) - Bag([(1,), (1,), (1,)]), [])
        self.assertBag(Bag([(1,), (2,)]) - Bag([(1,), (1,), (0,)]), [(2,)])
        self.assertBag(Bag() - Bag([(1,)]), [])
        self.assertBag(Bag([(1,)]) - Bag(), [(1,)])

    def test_many_by_name(self):
        self.assertSame(Bag([(1,), (1,)]).many(row=(1,)), 2)

    def test_random_bags(self):
        draw = random.Random(15)
        for _ in range(150):
            first = [draw.choice(ROWS) for _ in range(draw.randrange(12))]
            second = [draw.choice(ROWS) for _ in range(draw.randrange(12))]
            a, b = Bag(first), Bag(tuple(second))
            self.assertBag(a, first)
            self.assertBag(a + b, first + second)
            left = []
            for row in ROWS:
                left.extend([row] * max(0, count_in(row, first) - count_in(row, second)))
            self.assertBag(a - b, left)
            self.assertBag(a + a, first + first)
            self.assertBag(a - a, [])
            self.assertBag((a + b) - b, first)
            self.assertBag(a, first)
            self.assertBag(b, second)

    def test_never_changes(self):
        rows = [(2,), (1,)]
        pairs = [((1,), 2)]
        bag, other = Bag(rows), Bag.counted(pairs)
        rows.append((3,))
        pairs.append(((4,), 1))
        for worth in (bag.rows, bag.pairs, other.rows, other.pairs):
            worth.reverse()
            worth.append("spoilt")
        added, less = bag + other, bag - other
        for worth in (added.rows, added.pairs, less.rows, less.pairs):
            worth.clear()
        self.assertSame(rows, [(2,), (1,), (3,)])
        self.assertSame(pairs, [((1,), 2), ((4,), 1)])
        self.assertBag(bag, [(1,), (2,)])
        self.assertBag(other, [(1,), (1,)])
        self.assertBag(added, [(1,), (1,), (1,), (2,)])
        self.assertBag(less, [(2,)])

    def test_iterated_side_by_side(self):
        bag = Bag([(1,), (2,)])
        self.assertSame([(left, right) for left in bag for right in bag],
                        [((1,), (1,)), ((1,), (2,)), ((2,), (1,)), ((2,), (2,))])

    def test_large(self):
        rows = [(number // 2, "x" * (number % 3)) for number in range(3000)]
        bag = Bag(list(reversed(rows)))
        self.assertSame(len(bag), 3000)
        self.assertSame(bag.rows, sorted(rows))
        self.assertSame(len(bag - Bag(rows[:1000])), 2000)
        number = read_value("9" * 1500)
        self.assertSame(Bag([(number,), (number,)]).pairs, [((number,), 2)])


if __name__ == "__main__":
    unittest.main()
