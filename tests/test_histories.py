"""Points 55 to 58: what a record reads, links, orders and rings."""

import itertools
import random
import unittest

from storedesk.deltas import apply_delta, difference
from storedesk.errors import BadKind, BadWidth, CheckFailed, Dangling, Mismatch, NoTable
from storedesk.histories import full_reads, is_order, is_ring, links, replay, ring_of, serial_order
from tests.plainly import full_reads_of, item_order, links_of
from tests.samples import BOOK, RING, SCHEMA
from tests.support import StoreCase

ONE = (("t", (("id", "number"),), ("id",), (), ()),)
# Two tables without references, whose order is not that of their names.
LOOSE = (
    ("t", (("k", "any"),), ("k",), (), ()),
    ("s", (("k", "any"),), ("k",), (), ()),
)
# A reference of two columns, one that repeats a column, and two references to one table.
PAIRS = (
    ("p", (("x", "any"), ("y", "any")), ("y", "x"), (), ()),
    ("q", (("id", "number"), ("a", "any"), ("b", "any")), ("id",),
     ((("b", "a"), "p"), (("a", "a"), "p"), (("b",), "q")), ()),
)


def put(table, *row):
    return (table, row[:1], None, row)


def taken(table, *row):
    return (table, row[:1], row, None)


class TestFullReads(StoreCase):
    def check(self, schema, record, wanted):
        self.assertCall(full_reads, {"schema": schema, "record": record}, wanted)

    def test_reads_alone(self):
        self.check(SCHEMA, (0, (), ()), [])
        reads = (("ants", None), ("ants", ()), ("ants", (None,)), ("ants", (2,)), ("zoo", None))
        self.check(SCHEMA, (3, reads, ()), list(reads))

    def test_order_of_items(self):
        # The edits stand behind the reads, but the items are ascending: the whole table, then keys.
        reads = (("s", (False,)), ("s", (1,)), ("t", None))
        delta = (put("s", None), put("s", True), put("s", 0), put("s", "a"), put("t", 5))
        self.check(LOOSE, (0, reads, delta), [
            ("s", (None,)), ("s", (False,)), ("s", (True,)), ("s", (0,)), ("s", (1,)), ("s", ("a",)),
            ("t", None), ("t", (5,)),
        ])
        self.check(LOOSE, (0, (("s", None), ("s", (1,))), (put("s", 0),)), [("s", None), ("s", (0,)), ("s", (1,))])

    def test_each_item_once(self):
        self.check(LOOSE, (0, (("s", (1,)), ("t", None)), (put("s", True), put("s", 1))),
                   [("s", (True,)), ("s", (1,)), ("t", None)])
        self.check(LOOSE, (0, (("s", (True,)),), (put("s", 1),)), [("s", (True,)), ("s", (1,))])

    def test_references(self):
        row = (7, "a", "b")
        self.check(PAIRS, (0, (), (("q", (7,), None, row),)),
                   [("p", ("a", "a")), ("p", ("b", "a")), ("q", (7,)), ("q", ("b",))])
        # Whether the reference has changed or not.
        self.check(PAIRS, (0, (), (("q", (7,), row, (7, "a", "c")),)),
                   [("p", ("a", "a")), ("p", ("c", "a")), ("q", (7,)), ("q", ("c",))])
        self.check(PAIRS, (0, (), (("q", (7,), (7, 1, "b"), (7, None, "b")),)), [("q", (7,)), ("q", ("b",))])
        self.check(PAIRS, (0, (), (("q", (7,), None, (7, 1, None)),)), [("p", (1, 1)), ("q", (7,))])
        self.check(PAIRS, (0, (), (("q", (7,), None, (7, None, None)),)), [("q", (7,))])
        self.check(PAIRS, (0, (), (("q", (7,), None, (7, None, 7)),)), [("q", (7,))])
        self.check(PAIRS, (0, (), (("q", (7,), None, (7, False, True)),)),
                   [("p", (False, False)), ("p", (True, False)), ("q", (True,)), ("q", (7,))])
        self.check(PAIRS, (0, (), (("p", (1, 2), None, (2, 1)),)), [("p", (1, 2))])

    def test_removed_rows(self):
        self.check(PAIRS, (0, (), (("p", (1, 2), (2, 1), None),)), [("p", (1, 2)), ("q", None)])
        self.check(PAIRS, (0, (), (("q", (7,), (7, "a", "b"), None),)), [("q", None), ("q", (7,))])
        self.check(SCHEMA, (0, (), (("zoo", ("a",), ("a", None), None),)), [("ants", None), ("zoo", ("a",))])
        self.check(SCHEMA, (0, (), (("ants", (3,), (3, None, 3, 7), None),)), [("ants", None), ("ants", (3,))])
        self.check(SCHEMA, (0, (("ants", (9,)),), (("marks", (2, 0), (0, 2, 1, 1), None),)),
                   [("ants", (9,)), ("marks", None), ("marks", (2, 0))])
        self.check(RING, (0, (), (("p", (1,), (1, None), None),)), [("p", (1,)), ("q", None)])
        self.check(LOOSE, (0, (), (taken("t", 1),)), [("t", (1,))])


class TestLinks(StoreCase):
    def check(self, schema, history, *wanted):
        self.assertCall(links, {"schema": schema, "history": history}, list(wanted))
        self.assertSame(links_of(schema, history), list(wanted))

    def test_example(self):
        history = ((0, (), (("t", (1,), None, (1,)),)), (0, (("t", None),), ()))
        self.check(ONE, history, (1, 0))
        self.assertSame(serial_order(ONE, history), (1, 0))

    def test_none(self):
        self.check(ONE, ())
        self.check(ONE, ((0, (("t", None),), (put("t", 1),)),))
        self.check(ONE, ((0, (), ()), (0, (), ()), (1, (), ())))
        self.check(ONE, ((0, (), (put("t", 1),)), (0, (), (put("t", 2),))))
        self.check(ONE, ((0, (("t", None),), ()), (1, (("t", None),), ())))
        self.check(LOOSE, ((0, (("t", None),), (put("s", 1),)), (0, (("t", (1,)),), (put("s", True),))))

    def test_seen_and_not_seen(self):
        write, read = (put("t", 1),), (("t", (1,)),)
        self.check(ONE, ((0, (), write), (1, read, ())), (0, 1))
        self.check(ONE, ((0, (), write), (0, read, ())), (1, 0))
        self.check(ONE, ((0, read, ()), (0, (), write)), (0, 1))
        self.check(ONE, ((0, read, ()), (1, (), write)), (0, 1))
        self.check(ONE, ((0, (), write), (1, (), (taken("t", 1),))), (0, 1))
        self.check(ONE, ((0, (), write), (0, (), write)), (0, 1), (1, 0))
        self.check(ONE, ((0, read, (put("t", 2),)), (0, (("t", (2,)),), write)), (0, 1), (1, 0))

    def test_whole_tables(self):
        self.check(ONE, ((0, (), (put("t", 1),)), (1, (("t", None), ("t", (1,))), ())), (0, 1))
        self.check(LOOSE, ((0, (), (put("s", 1), put("t", 1))), (0, (("s", None),), ()), (1, (("t", None),), ())),
                   (0, 2), (1, 0))
        # A whole table that is read because a row is removed, not because the transaction has asked for it.
        self.check(RING, ((0, (), (("p", (1,), (1, None), None),)), (0, (), (("q", (5,), None, (5, None)),))), (0, 1))
        self.check(RING, ((0, (), (("p", (1,), (1, None), None),)), (0, (), (("q", (5,), None, (5, 1)),))),
                   (0, 1), (1, 0))
        self.check(RING, ((0, (), (("q", (5,), None, (5, None)),)), (1, (), (("p", (1,), (1, None), None),))), (0, 1))

    def test_three_records(self):
        history = ((0, (), (put("t", 1),)), (1, (("t", (1,)),), (put("t", 2),)), (1, (("t", (2,)),), ()))
        self.check(ONE, history, (0, 1), (2, 1))

    def test_true_is_not_one(self):
        self.check(LOOSE, ((0, (), (put("t", 1),)), (0, (("t", (True,)),), ()), (0, (("t", (1,)),), ())), (2, 0))

    def test_random_histories(self):
        draw = random.Random(57)
        for _ in range(200):
            schema, history = random_history(draw, 7)
            self.assertSame(links(schema, history), links_of(schema, history), history)
            for record in history:
                items = {repr(item): item for item in full_reads_of(schema, record)}
                self.assertSame(full_reads(schema, record), sorted(items.values(), key=item_order))


class TestOrders(StoreCase):
    def test_the_empty_history(self):
        self.assertIs(is_order(ONE, (), ()), True)
        self.assertIs(is_order(ONE, (), (0,)), False)
        self.assertIs(is_ring(ONE, (), ()), False)
        self.assertIs(is_ring(ONE, (), (0, 1)), False)
        self.assertSame(serial_order(ONE, ()), ())
        self.assertIsNone(ring_of(ONE, ()))

    def test_numbers(self):
        history = tuple([(0, (), (put("t", at),)) for at in range(3)])
        for order in itertools.permutations(range(3)):
            self.assertCall(is_order, {"schema": ONE, "history": history, "order": order}, True)
        for order in ((), (0, 1), (0, 1, 2, 2), (0, 0, 1), (0, 1, 3), (0, 1, 2, 3), (1, 2, 3), (0, 1000000, 2)):
            self.assertCall(is_order, {"schema": ONE, "history": history, "order": order}, False)
            self.assertCall(is_ring, {"schema": ONE, "history": history, "ring": order}, False)
        self.assertCall(serial_order, {"schema": ONE, "history": history}, (0, 1, 2))
        self.assertCall(ring_of, {"schema": ONE, "history": history}, None)

    def test_a_link(self):
        history = ((0, (), (put("t", 1),)), (0, (("t", (1,)),), ()))
        self.assertIs(is_order(ONE, history, (1, 0)), True)
        self.assertIs(is_order(ONE, history, (0, 1)), False)
        self.assertIs(is_ring(ONE, history, (1, 0)), False)
        self.assertIs(is_ring(ONE, history, (0, 1)), False)
        self.assertIs(is_ring(ONE, history, (1,)), False)

    def test_a_ring_of_two(self):
        history = ((0, (), (put("t", 9),)), (0, (), (put("t", 1),)), (1, (), (put("t", 1),)))
        self.assertSame(links(ONE, history), [(1, 2), (2, 1)])
        self.assertIs(is_ring(ONE, history, (1, 2)), True)
        self.assertIs(is_ring(ONE, history, (2, 1)), True)
        for ring in ((), (1,), (2,), (0, 1), (1, 2, 0), (1, 2, 1), (1, 2, 1, 2), (1, 1), (1, 2, 3), (2, 3)):
            self.assertCall(is_ring, {"schema": ONE, "history": history, "ring": ring}, False)
        for order in itertools.permutations(range(3)):
            self.assertIs(is_order(ONE, history, order), False)
        self.assertIsNone(serial_order(ONE, history))
        self.assertIn(ring_of(ONE, history), ((1, 2), (2, 1)))

    def test_a_ring_of_three(self):
        # Each has read what the one before it writes, and has not seen it.
        history = tuple([(0, (("t", (at,)),), (put("t", (at + 1) % 3),)) for at in range(3)])
        self.assertSame(links(ONE, history), [(0, 2), (1, 0), (2, 1)])
        for ring in ((0, 2, 1), (2, 1, 0), (1, 0, 2)):
            self.assertCall(is_ring, {"schema": ONE, "history": history, "ring": ring}, True)
        for ring in ((0, 1, 2), (2, 0, 1), (0, 2), (2, 1), (1, 0), (0, 2, 1, 0), (0, 2, 1, 0, 2, 1), (0, 2, 1, 3)):
            self.assertCall(is_ring, {"schema": ONE, "history": history, "ring": ring}, False)
        self.assertIs(is_ring(ONE, history, ring_of(ONE, history)), True)
        self.assertCall(serial_order, {"schema": ONE, "history": history}, None)

    def test_a_ring_behind_others(self):
        history = (
            (0, (), (put("t", 1),)), (1, (), (taken("t", 1),)), (2, (), (put("t", 1),)), (2, (), (put("t", 1),)),
            (4, (("t", None),), ()),
        )
        self.assertIsNone(serial_order(ONE, history))
        self.assertIn(ring_of(ONE, history), ((2, 3), (3, 2)))

    def test_the_least_number_is_taken(self):
        # 0 and 2 could begin, then 1, 2 or 3; 1 must wait for 4.
        history = (
            (0, (), ()), (0, (), (put("t", 1),)), (0, (), ()), (0, (), ()), (0, (("t", (1,)),), ()), (0, (), ()),
        )
        self.assertSame(links(ONE, history), [(4, 1)])
        self.assertCall(serial_order, {"schema": ONE, "history": history}, (0, 2, 3, 4, 1, 5))

    def test_random_histories(self):
        draw = random.Random(58)
        rings = 0
        for _ in range(150):
            schema, history = random_history(draw, 5)
            pairs = links_of(schema, history)
            orders = list(itertools.permutations(range(len(history))))
            right = [order for order in orders if all([order.index(a) < order.index(b) for a, b in pairs])]
            for order in orders:
                self.assertIs(is_order(schema, history, order), order in right)
            # The serial order is the right order that is least, compared from the left.
            self.assertSame(serial_order(schema, history), min(right, default=None))
            self.assertIs(ring_of(schema, history) is None, len(right) > 0)
            if not right:
                rings += 1
                self.assertIs(is_ring(schema, history, ring_of(schema, history)), True)
            for size in range(2, len(history) + 1):
                for ring in itertools.permutations(range(len(history)), size):
                    goes = all([(ring[at - 1], ring[at]) in pairs for at in range(size)])
                    self.assertIs(is_ring(schema, history, ring), goes)
        self.assertGreater(rings, 30)

    def test_long_histories(self):
        draw = random.Random(24)
        for _ in range(30):
            schema, history = random_history(draw, 24)
            ring = ring_of(schema, history)
            order = serial_order(schema, history)
            self.assertIs(ring is None, order is not None)
            if order is None:
                self.assertIs(is_ring(schema, history, ring), True)
            else:
                self.assertIs(is_order(schema, history, order), True)


class TestReplay(StoreCase):
    history = (
        (0, (), (("zoo", ("c",), None, ("c", None)),)),
        (1, (), (("ants", (4,), None, (4, "c", None, 5)),)),
        (2, (), (("ants", (4,), (4, "c", None, 5), (4, None, None, 5)), ("zoo", ("c",), ("c", None), None))),
        (0, (), (("zoo", ("d",), None, ("d", None)),)),
    )

    def test_right_orders(self):
        book = BOOK
        for count in range(5):
            self.assertCall(replay, {"schema": SCHEMA, "book": BOOK, "history": self.history,
                                     "numbers": tuple(range(count))}, book)
            if count < 4:
                book = apply_delta(SCHEMA, book, self.history[count][2])
        for numbers in ((3, 0, 1, 2), (0, 3, 1, 2), (0, 1, 3, 2)):
            self.assertSame(replay(SCHEMA, BOOK, self.history, numbers), book)
        self.assertSame(replay(SCHEMA, BOOK, self.history, (3,)), apply_delta(SCHEMA, BOOK, self.history[3][2]))
        self.assertSame(replay(SCHEMA, BOOK, (), ()), BOOK)

    def test_errors(self):
        for error, attributes, numbers in (
            (Dangling, {"table": "ants", "reference": 0, "key": (4,)}, (3, 1, 0, 2)),
            (Mismatch, {"table": "ants", "key": (4,)}, (0, 2, 1)),
            (Mismatch, {"table": "ants", "key": (4,)}, (2,)),
        ):
            self.assertFails(error, attributes, replay, SCHEMA, BOOK, self.history, numbers)
            self.assertFails(error, attributes, replay, numbers=numbers, history=self.history, book=BOOK, schema=SCHEMA)

    def test_the_first_record_decides(self):
        """By point 7 the classes are tried in their order for each record by itself."""
        history = (
            (0, (), (("zoo", ("a",), ("a", None), None),)),
            (0, (), (("ants", (5,), None, (5, None, None, 0)),)),
            (0, (), (("ants", (5,), None, (5, None, None, "x")),)),
            (0, (), (("ants", (5,), None, (5,)),)),
            (0, (), (("bees", (5,), None, (5,)),)),
            (0, (), (("zoo", ("b",), ("b", None), ("b", 7)),)),
            (0, (), (("zoo", ("c",), None, ("c", None)),)),
        )
        for error, attributes, numbers in (
            (Dangling, {"table": "ants"}, (6, 0, 1, 2, 3, 4)), (CheckFailed, {"check": 0}, (1, 0, 2, 3, 4)),
            (BadKind, {"column": "size"}, (2, 3, 0)), (BadWidth, {"row": (5,)}, (3, 4)),
            (NoTable, {"table": "bees"}, (4, 3)),
            (BadKind, {"table": "zoo", "column": "city"}, (6, 5, 4)),
        ):
            self.assertFails(error, attributes, replay, SCHEMA, BOOK, history, numbers)


def random_history(draw, most):
    """A schema and a history over it, with records that have few things in common."""
    schema = draw.choice((LOOSE, RING, PAIRS))
    many = draw.choice((3, 8))
    history = []
    for at in range(draw.randrange(most + 1)):
        items = {repr(item): item for item in [random_item(draw, schema, many) for _ in range(draw.randrange(3))]}
        reads = sorted(items.values(), key=lambda item: (item[0], item[1] is not None, repr(item[1])))
        old, new = random_book(draw, schema, many), random_book(draw, schema, many)
        delta = tuple([edit for edit in difference(schema, old, new) if draw.random() < 0.3])
        history.append((draw.randrange(at + 1), tuple(reads), delta))
    return schema, tuple(history)


def random_item(draw, schema, many):
    definition = draw.choice(schema)
    if draw.random() < 0.2:
        return (definition[0], None)
    return (definition[0], tuple([draw.randrange(many) for _ in definition[2]]))


def random_book(draw, schema, many):
    """Rows that fit; their references need not be kept."""
    pairs = []
    for name, columns, key, _, _ in schema:
        rows = {}
        for _ in range(draw.randrange(4)):
            row = tuple([draw.choice((None, draw.randrange(many))) if column not in key else draw.randrange(many)
                         for column, _ in columns])
            names = [column for column, _ in columns]
            rows[tuple([row[names.index(part)] for part in key])] = row
        pairs.append((name, tuple([rows[place] for place in sorted(rows)])))
    return tuple(pairs)


if __name__ == "__main__":
    unittest.main()
