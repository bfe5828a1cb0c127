"""Points 59 to 63: transactions side by side, what they read, versions and sweeps."""

import copy
import itertools
import random
import unittest

from storedesk.books import is_book, row_at, rows_of
from storedesk.deltas import apply_delta
from storedesk.errors import (
    BadKind, BadWidth, CheckFailed, Closed, Dangling, KeyTaken, Mismatch, NoColumn, NoTable, NotSerial, Repeated,
    StoreError, Swept, Unlike,
)
from storedesk.histories import is_order, is_ring, replay, serial_order
from storedesk.reader import read_change, read_query
from storedesk.versions import VersionStore
from tests.plainly import CITIES, TOWN, TOWN_BOOK, PlainStore, outcome, town_change, town_delta
from tests.support import StoreCase, spoil

KV = (("t", (("k", "any"), ("x", "any")), ("k",), (), ()), ("s", (("k", "any"),), ("k",), (), ()))
KV_BOOK = (("t", ((True, "yes"), (1, "one"), (2, "two"))), ("s", ()))


def put(table, *row):
    return (table, row[:1], None, row)


def taken(table, *row):
    return (table, row[:1], row, None)


def turned(table, before, after):
    return (table, before[:1], before, after)


def committed(store, *deltas):
    """Commit the deltas, each in a transaction of its own."""
    for delta in deltas:
        number = store.begin()
        store.edit(number, (delta,))
        store.commit(number)


class VersionCase(StoreCase):
    def change(self, store, number, text):
        return store.change(number, read_change(text))

    def state(self, store):
        """All that a store shows, for comparing it before and after."""
        numbers = store.under_way
        return copy.deepcopy((store.book, store.history, numbers, [
            (store.seen(number), store.own(number), store.reads(number)) for number in numbers
        ], [store.versions(name, row[:1]) for name, rows in store.book for row in rows]))


class TestTransactions(VersionCase):
    def test_a_new_store(self):
        store = VersionStore(book=KV_BOOK, schema=KV)
        self.assertSame((store.book, store.history, store.under_way), (KV_BOOK, (), ()))
        self.assertSame(store.book_at(0), KV_BOOK)
        self.assertSame(store.sweep(), 0)
        self.assertSame(VersionStore((), ()).book, ())

    def test_numbers(self):
        store = VersionStore(KV, KV_BOOK)
        self.assertSame([store.begin() for _ in range(4)], [0, 1, 2, 3])
        store.drop(2)
        self.assertSame(store.under_way, (0, 1, 3))
        self.assertSame(store.commit(0), 0)
        self.assertSame(store.begin(), 4)
        self.assertSame(store.under_way, (1, 3, 4))
        self.assertSame(store.commit(number=3), 1)
        self.assertIsNone(store.drop(number=4))
        self.assertSame(store.under_way, (1,))
        self.assertSame(store.history, ((0, (), ()), (0, (), ())))

    def test_what_each_one_sees(self):
        store = VersionStore(KV, KV_BOOK)
        first, second = store.begin(), store.begin()
        self.assertSame(self.change(store, first, 'put t (3, "three")'), (put("t", 3, "three"),))
        self.assertSame(self.change(store, second, "put s (1)"), (put("s", 1),))
        self.assertSame(store.seen(first), (("t", (*KV_BOOK[0][1], (3, "three"))), ("s", ())))
        self.assertSame(store.seen(second), (KV_BOOK[0], ("s", ((1,),))))
        self.assertSame(store.book, KV_BOOK)
        store.commit(first)
        third = store.begin()
        self.assertSame(store.seen(second), (KV_BOOK[0], ("s", ((1,),))))
        self.assertSame(store.seen(third), (("t", (*KV_BOOK[0][1], (3, "three"))), ("s", ())))
        self.assertSame(store.book, store.seen(third))
        store.commit(second)
        self.assertSame(store.seen(third), (("t", (*KV_BOOK[0][1], (3, "three"))), ("s", ())))
        self.assertSame(store.book, (("t", (*KV_BOOK[0][1], (3, "three"))), ("s", ((1,),))))

    def test_queries_are_shown(self):
        store = VersionStore(KV, KV_BOOK)
        number = store.begin()
        self.assertSame(store.query(number, read_query("from t as t top 2 by t.k down")), [(2, "two"), (1, "one")])
        self.assertSame(store.query(number, read_query("from t as t top 2 by t.k down where always")),
                        [(1, "one"), (2, "two")])
        self.change(store, number, "take t where k > 1")
        self.assertSame(store.query(tree=read_query("from t as t"), number=number), [(True, "yes"), (1, "one")])
        self.assertSame(VersionStore(KV, KV_BOOK).begin(), 0)

    def test_looks(self):
        store = VersionStore(KV, KV_BOOK)
        number = store.begin()
        self.assertSame(store.look(number, "t", (1,)), (1, "one"))
        self.assertSame(store.look(number, "t", (True,)), (True, "yes"))
        self.assertSame(store.look(key=(2,), table="t", number=number), (2, "two"))
        for key in ((3,), (), (1, 1), (False,), (None,)):
            self.assertIsNone(store.look(number, "t", key))
        self.change(store, number, "take t where k = 1")
        self.assertIsNone(store.look(number, "t", (1,)))

    def test_closed(self):
        calls = (
            lambda store, number: store.query(number, ("table", "nope", "n")),
            lambda store, number: store.look(number, "nope", ()),
            lambda store, number: store.change(number, ("take", "nope", ("true",))),
            lambda store, number: store.edit(number, (put("nope", 1), put("t", 1))),
            lambda store, number: store.edit(number, ()),
            lambda store, number: store.seen(number),
            lambda store, number: store.own(number),
            lambda store, number: store.reads(number),
            lambda store, number: store.ring_ahead(number),
            lambda store, number: store.commit(number),
            lambda store, number: store.drop(number),
        )
        store = VersionStore(KV, KV_BOOK)
        for _ in range(5):
            store.begin()
        store.commit(0)
        store.drop(1)
        store.change(2, ("take", "t", ("true",)))
        store.query(3, ("table", "t", "t"))
        store.change(3, ("take", "t", ("true",)))
        store.commit(2)
        self.assertFails(NotSerial, {}, store.commit, 3)
        before = self.state(store)
        for call in calls:
            for number in (0, 1, 2, 3, 5, 1000000):
                self.assertFails(Closed, {}, call, store, number)
        self.assertSame(self.state(store), before)
        self.assertSame(store.under_way, (4,))

    def test_errors_of_calls(self):
        store = VersionStore(TOWN, TOWN_BOOK)
        number = store.begin()
        before = self.state(store)
        for error, attributes, text in (
            (NoTable, {"table": "nope"}, "from nope as n where x = 1"),
            (NoColumn, {"label": "id"}, "from city as c read id"),
            (Repeated, {"label": "c.id"}, "from city as c with city as c"),
            (Unlike, {"left": ("c.id", "c.size")}, "from city as c union note as n"),
        ):
            self.assertFails(error, attributes, store.query, number, read_query(text))
        self.assertFails(NoTable, {"table": "nope"}, store.look, number, "nope", (1,))
        for error, attributes, text in (
            (NoTable, {"table": "nope"}, "take nope where x = 1"), (NoColumn, {"label": "x"}, "take city where x = 1"),
            (Repeated, {"label": "size"}, "set city size to 1, size to 2"), (BadWidth, {"row": (1,)}, "put city (1)"),
            (BadKind, {"table": "person", "column": "id"}, 'put person ("x", none, none)'),
            (CheckFailed, {"check": 0}, "put city (5, -1)"), (KeyTaken, {"key": (True,)}, "put city (true, 5)"),
            (Dangling, {"table": "person", "reference": 0, "key": (1,)}, 'take city where id = "a"'),
        ):
            self.assertFails(error, attributes, store.change, number, read_change(text))
            self.assertFails(error, attributes, store.change, change=read_change(text), number=number)
        for error, attributes, delta in (
            (NoTable, {"table": "nope"}, (put("city", 1), put("nope", 1))),
            (BadWidth, {"row": (1,)}, (put("city", 1), put("city", 2, -1))),
            (BadKind, {"table": "person", "column": "boss"}, (put("city", 2, -1), put("person", 9, None, "x"))),
            (CheckFailed, {"check": 0}, (put("city", 2, -1), taken("city", 7, 7))),
            (Mismatch, {"table": "city", "key": (7,)}, (taken("city", 7, 7), taken("city", "a", True))),
            (Dangling, {"table": "person", "reference": 0, "key": (1,)}, (taken("city", "a", True),)),
        ):
            self.assertFails(error, attributes, store.edit, number, delta)
            self.assertFails(error, attributes, store.edit, delta=delta, number=number)
        self.assertSame(self.state(store), before)
        self.assertSame((store.reads(number), store.own(number)), ([], ()))

    def test_what_is_returned_is_new(self):
        store = VersionStore(KV, KV_BOOK)
        number = store.begin()
        tree = read_query("from t as t")
        store.look(number, "t", (1,))
        committed(store, put("s", 1))
        for call in (lambda: store.query(number, tree), lambda: store.reads(number),
                     lambda: store.versions("s", (1,)), lambda: store.versions("t", (1,))):
            before = copy.deepcopy(call())
            spoil(call())
            self.assertSame(call(), before)


class TestReads(VersionCase):
    def after(self, text=None, delta=None, schema=TOWN, book=TOWN_BOOK):
        """The items after one change or one edit."""
        store = VersionStore(schema, book)
        number = store.begin()
        if text is not None:
            self.change(store, number, text)
        if delta is not None:
            self.assertIsNone(store.edit(number, delta))
        return store.reads(number)

    def test_a_query_reads_its_tables(self):
        store = VersionStore(TOWN, TOWN_BOOK)
        number = store.begin()
        self.assertSame(store.reads(number), [])
        store.query(number, read_query("from empty (x)"))
        self.assertSame(store.reads(number), [])
        store.query(number, read_query("from person as p where never"))
        self.assertSame(store.reads(number), [("person", None)])
        store.query(number, read_query("from city as a with (from city as b top 0)"))
        self.assertSame(store.reads(number), [("city", None), ("person", None)])

    def test_a_look_reads_its_key(self):
        store = VersionStore(TOWN, TOWN_BOOK)
        number = store.begin()
        for table, key in (("person", (9,)), ("city", (1,)), ("city", ()), ("city", (True,)), ("person", (1,)),
                           ("person", (9,)), ("city", (1, 2))):
            store.look(number, table, key)
        self.assertSame(store.reads(number), [
            ("city", ()), ("city", (True,)), ("city", (1,)), ("city", (1, 2)), ("person", (1,)), ("person", (9,)),
        ])
        store.query(number, ("table", "city", "c"))
        self.assertSame(store.reads(number)[:3], [("city", None), ("city", ()), ("city", (True,))])

    def test_changes(self):
        self.assertSame(self.after("put city (2, 0)"), [("city", (2,))])
        self.assertSame(self.after("put person (9, true, 2)"), [("city", (True,)), ("person", (2,)), ("person", (9,))])
        self.assertSame(self.after("put person (9, none, none)"), [("person", (9,))])
        self.assertSame(self.after("take city where id = 2"), [("city", None)])
        self.assertSame(self.after("take city where id = 1"), [("city", None), ("city", (1,)), ("person", None)])
        self.assertSame(self.after("take note where on = 1"), [("note", None), ("note", (0, 1))])
        self.assertSame(self.after("take person where id = 3"), [("note", None), ("person", None), ("person", (3,))])
        self.assertSame(self.after("set city size to 0"), [("city", None), ("city", ("a",))])
        self.assertSame(self.after("set city size to 0 where never"), [("city", None)])
        self.assertSame(self.after("set person boss to none where id = 2"),
                        [("city", (True,)), ("person", None), ("person", (2,))])

    def test_edits(self):
        self.assertSame(self.after(delta=()), [])
        self.assertSame(self.after(delta=(turned("city", (1, 0), (1, 7)),)), [("city", (1,))])
        self.assertSame(self.after(delta=(taken("city", 1, 0),)), [("city", (1,)), ("person", None)])
        self.assertSame(self.after(delta=(("note", (0, 3), None, (3, 0, "z")),)), [("note", (0, 3)), ("person", (3,))])
        self.assertSame(self.after(delta=(taken("person", 3, None, 3),)),
                        [("note", None), ("person", None), ("person", (3,))])

    def test_items_stay(self):
        """Also if later calls undo what was written."""
        store = VersionStore(TOWN, TOWN_BOOK)
        number = store.begin()
        self.change(store, number, "put city (5, 0)")
        store.edit(number, (taken("city", 5, 0),))
        self.assertSame(store.own(number), ())
        self.assertSame(store.seen(number), TOWN_BOOK)
        self.assertSame(store.reads(number), [("city", (5,)), ("person", None)])
        self.change(store, number, "set city size to 9 where id = 1")
        self.change(store, number, "set city size to 0 where id = 1")
        self.assertSame(store.own(number), ())
        self.change(store, number, "put city (5, 1)")
        self.assertSame(store.own(number), (put("city", 5, 1),))
        self.assertSame(store.reads(number), [("city", None), ("city", (1,)), ("city", (5,)), ("person", None)])
        self.assertSame(store.commit(number), 0)
        self.assertSame(store.history, ((0, (("city", None), ("city", (1,)), ("city", (5,)), ("person", None)),
                                         (put("city", 5, 1),)),))

    def test_own_deltas_are_combined(self):
        store = VersionStore(KV, KV_BOOK)
        number = store.begin()
        self.assertSame(store.own(number), ())
        self.assertSame(self.change(store, number, 'set t x to "uno" where k = 1'),
                        (turned("t", (1, "one"), (1, "uno")),))
        self.assertSame(self.change(store, number, "set t x to 0 where k = 1"), (turned("t", (1, "uno"), (1, 0)),))
        self.assertSame(store.own(number), (turned("t", (1, "one"), (1, 0)),))
        self.change(store, number, "put s (1)")
        self.change(store, number, "take t where k = 1")
        self.assertSame(store.own(number), (put("s", 1), taken("t", 1, "one")))


class TestCommit(VersionCase):
    def test_records(self):
        store = VersionStore(KV, KV_BOOK)
        first, second = store.begin(), store.begin()
        store.look(first, "t", (1,))
        self.change(store, first, "put s (1)")
        self.assertIsNone(store.ring_ahead(first))
        self.assertSame(store.commit(first), 0)
        third = store.begin()
        self.change(store, third, "put s (2)")
        self.assertSame(store.commit(third), 1)
        self.assertSame(store.commit(second), 2)
        self.assertSame(store.history, (
            (0, (("s", (1,)), ("t", (1,))), (put("s", 1),)), (1, (("s", (2,)),), (put("s", 2),)), (0, (), ()),
        ))

    def test_without_reads_and_edits(self):
        store = VersionStore(KV, KV_BOOK)
        number = store.begin()
        committed(store, put("s", 1), taken("s", 1))
        self.assertIsNone(store.ring_ahead(number))
        self.assertSame(store.commit(number), 2)
        self.assertSame(store.history[2], (0, (), ()))

    def refused(self, store, number):
        """A commit of the transaction, which began at 0, is refused as was said ahead, and changes nothing else."""
        others = [one for one in store.under_way if one != number]
        made = (store.history, store.book, [store.seen(one) for one in others], store.versions("t", (1,)))
        longer = (*store.history, (0, tuple(store.reads(number)), store.own(number)))
        before = self.state(store)
        ring = store.ring_ahead(number)
        self.assertSame(self.state(store), before)
        self.assertIn(len(store.history), ring)
        try:
            store.commit(number)
        except NotSerial as error:
            found = error.ring
        else:
            self.fail("the commit is not refused")
        for one in (ring, found):
            self.assertIsInstance(one, tuple)
            self.assertTrue(is_ring(KV, longer, one), (longer, one))
        self.assertSame(store.under_way, tuple(others))
        self.assertSame((store.history, store.book, [store.seen(one) for one in others], store.versions("t", (1,))),
                        made)
        self.assertFails(Closed, {}, store.commit, number)

    def test_the_same_row_twice(self):
        store = VersionStore(KV, KV_BOOK)
        first, second, third = store.begin(), store.begin(), store.begin()
        self.change(store, first, "set t x to 5 where k = 1")
        store.edit(second, (turned("t", (1, "one"), (1, 6)),))
        self.change(store, third, "put s (1)")
        self.assertIsNone(store.ring_ahead(second))
        store.commit(first)
        self.refused(store, second)
        self.assertSame(store.commit(third), 1)
        self.assertSame(rows_of(store.book, "t"), [(True, "yes"), (1, 5), (2, "two")])

    def test_reads_of_what_the_other_writes(self):
        store = VersionStore(KV, KV_BOOK)
        first, second = store.begin(), store.begin()
        store.look(first, "t", (1,))
        self.change(store, first, "put s (1)")
        store.query(second, ("table", "s", "s"))
        store.edit(second, (turned("t", (1, "one"), (1, 6)),))
        self.assertIsNone(store.ring_ahead(second))
        store.commit(first)
        self.refused(store, second)

    def test_reading_alone_is_no_ring(self):
        store = VersionStore(KV, KV_BOOK)
        reader, writer = store.begin(), store.begin()
        store.query(reader, ("table", "t", "t"))
        store.edit(writer, (turned("t", (1, "one"), (1, 6)),))
        store.commit(writer)
        self.assertIsNone(store.ring_ahead(reader))
        self.assertSame(store.commit(reader), 1)
        self.assertSame(serial_order(KV, store.history), (1, 0))

    def test_a_ring_of_three(self):
        store = VersionStore(KV, KV_BOOK)
        numbers = [store.begin() for _ in range(3)]
        for number, read, written in zip(numbers, (1, 2, 3), (2, 3, 1)):
            store.look(number, "s", (read,))
            store.edit(number, (put("s", written),))
        self.assertSame(store.commit(0), 0)
        self.assertSame(store.commit(1), 1)
        self.refused(store, 2)

    def test_true_is_not_one(self):
        store = VersionStore(KV, KV_BOOK)
        first, second = store.begin(), store.begin()
        store.edit(first, (turned("t", (1, "one"), (1, 6)),))
        store.edit(second, (turned("t", (True, "yes"), (True, 6)),))
        store.commit(first)
        self.assertSame(store.commit(second), 1)

    def test_a_reference_to_a_row_that_goes(self):
        for order in ((0, 1), (1, 0)):
            store = VersionStore(TOWN, TOWN_BOOK)
            self.assertSame([store.begin(), store.begin()], [0, 1])
            self.change(store, 0, "take city where id = 1")
            self.change(store, 1, "put person (9, 1, none)")
            self.assertSame(store.commit(order[0]), 0)
            self.assertIsNotNone(store.ring_ahead(order[1]))
            self.assertFails(NotSerial, {}, store.commit, order[1])
            self.assertTrue(is_book(TOWN, store.book))

    def test_a_reference_that_does_not_change(self):
        store = VersionStore(TOWN, TOWN_BOOK)
        store.begin()
        self.change(store, 0, "set note text to 5 where on = 2")
        self.assertIn(("person", (2,)), store.reads(0))
        committed(store, turned("person", (2, True, 1), (2, None, 1)))
        # Only the row referred to has changed, so there is an order, but no ring.
        self.assertSame(store.commit(0), 1)
        self.assertSame(serial_order(TOWN, store.history), (1, 0))


class TestVersions(VersionCase):
    def test_versions(self):
        store = VersionStore(KV, KV_BOOK)
        committed(store, turned("t", (1, "one"), (1, 5)), put("s", 1), taken("s", 1), taken("t", 1, 5), put("s", 1),
                  turned("t", (True, "yes"), (True, 0)))
        self.assertSame(store.versions("t", (1,)), [(0, (1, "one")), (1, (1, 5)), (4, None)])
        self.assertSame(store.versions("s", (1,)), [(2, (1,)), (3, None), (5, (1,))])
        self.assertSame(store.versions(key=(True,), table="t"), [(0, (True, "yes")), (6, (True, 0))])
        self.assertSame(store.versions("t", (2,)), [(0, (2, "two"))])
        for key in ((3,), (), (1, 1), (False,)):
            self.assertSame(store.versions("t", key), [])
        self.assertSame(store.versions("s", (True,)), [])
        self.assertFails(NoTable, {"table": "nope"}, store.versions, "nope", (1,))
        self.assertFails(NoTable, {"table": "nope"}, store.versions, key=(), table="nope")

    def test_only_written_items_get_versions(self):
        store = VersionStore(KV, KV_BOOK)
        number = store.begin()
        store.look(number, "t", (1,))
        self.change(store, number, "set t x to 5 where k = 1")
        self.change(store, number, 'set t x to "one" where k = 1')
        store.commit(number)
        self.assertSame(store.versions("t", (1,)), [(0, (1, "one"))])

    def filled(self):
        """Six records; the item (s, (1,)) comes, goes, comes and goes."""
        store = VersionStore(KV, KV_BOOK)
        committed(store, put("s", 1), turned("t", (1, "one"), (1, 5)), taken("s", 1), put("s", 1), taken("s", 1),
                  taken("t", 2, "two"))
        return store

    def test_a_sweep_of_all(self):
        store = self.filled()
        books = [store.book_at(count) for count in range(7)]
        self.assertSame(books[0], KV_BOOK)
        self.assertSame(books[6], store.book)
        history = store.history
        # s (1): four pairs; t (1): one of two; t (2): two pairs.
        self.assertSame(store.sweep(), 7)
        self.assertSame(store.versions("s", (1,)), [])
        self.assertSame(store.versions("t", (1,)), [(2, (1, 5))])
        self.assertSame(store.versions("t", (2,)), [])
        self.assertSame(store.versions("t", (True,)), [(0, (True, "yes"))])
        self.assertSame(store.sweep(), 0)
        self.assertSame((store.history, store.book), (history, books[6]))
        self.assertSame(store.book_at(6), books[6])
        for count in range(6):
            self.assertFails(Swept, {"count": count}, store.book_at, count)
        committed(store, put("s", 1), put("t", 2, 0))
        self.assertSame(store.versions("s", (1,)), [(7, (1,))])
        self.assertSame(store.versions("t", (2,)), [(8, (2, 0))])
        self.assertSame(store.book_at(count=7), (("t", ((True, "yes"), (1, 5))), ("s", ((1,),))))

    def test_sweeps_with_transactions_under_way(self):
        store = VersionStore(KV, KV_BOOK)
        committed(store, put("s", 1))
        early = store.begin()
        committed(store, taken("s", 1), put("s", 1))
        late = store.begin()
        committed(store, taken("s", 1))
        self.assertSame(store.sweep(), 0)
        self.assertSame(store.versions("s", (1,)), [(1, (1,)), (2, None), (3, (1,)), (4, None)])
        self.assertFails(Swept, {"count": 0}, store.book_at, 0)
        self.assertSame(store.book_at(1), (KV_BOOK[0], ("s", ((1,),))))
        self.assertSame(store.book_at(2), KV_BOOK)
        store.drop(early)
        self.assertSame(store.sweep(), 2)
        self.assertSame(store.versions("s", (1,)), [(3, (1,)), (4, None)])
        self.assertFails(Swept, {"count": 2}, store.book_at, 2)
        self.assertSame(store.book_at(3), (KV_BOOK[0], ("s", ((1,),))))
        self.assertSame(store.seen(late), (KV_BOOK[0], ("s", ((1,),))))
        store.commit(late)
        self.assertSame(store.sweep(), 2)
        self.assertSame(store.versions("s", (1,)), [])
        self.assertFails(Swept, {"count": 4}, store.book_at, 4)
        self.assertSame(store.book_at(5), KV_BOOK)

    def test_a_leading_none(self):
        store = VersionStore(KV, KV_BOOK)
        committed(store, put("s", 1), taken("s", 1))
        store.begin()
        committed(store, put("s", 1))
        # The None is the last pair at the horizon, so it goes for itself, not because a pair follows it.
        self.assertSame(store.sweep(), 2)
        self.assertSame(store.versions("s", (1,)), [(3, (1,))])
        self.assertSame(store.book_at(2), KV_BOOK)
        self.assertSame(store.book_at(3), (KV_BOOK[0], ("s", ((1,),))))

    def test_a_none_above_the_horizon_stays(self):
        store = VersionStore(KV, KV_BOOK)
        store.begin()
        committed(store, taken("t", 2, "two"))
        self.assertSame(store.sweep(), 0)
        self.assertSame(store.versions("t", (2,)), [(0, (2, "two")), (1, None)])
        self.assertSame(store.book_at(0), KV_BOOK)

    def test_the_greatest_horizon(self):
        store = VersionStore(KV, KV_BOOK)
        committed(store, put("s", 1), put("s", 2))
        number = store.begin()
        self.assertSame(store.sweep(), 0)
        self.assertFails(Swept, {"count": 1}, store.book_at, 1)
        self.assertFails(Swept, {"count": 1}, store.book_at, count=1)
        committed(store, put("s", 3))
        store.drop(number)
        self.assertSame(store.book_at(2), (KV_BOOK[0], ("s", ((1,), (2,)))))
        self.assertSame(store.sweep(), 0)
        self.assertFails(Swept, {"count": 2}, store.book_at, 2)


class TestRandomly(VersionCase):
    def test_against_a_plain_reading(self):
        draw = random.Random(61)
        refused = 0
        for _ in range(40):
            store, plain = VersionStore(TOWN, TOWN_BOOK), PlainStore(TOWN, TOWN_BOOK)
            for _ in range(80):
                if len(store.history) == 24:
                    break
                refused += self.step(draw, store, plain)
                self.compare(draw, store, plain)
            self.check_orders(draw, store)
        self.assertGreater(refused, 40)

    def step(self, draw, store, plain):
        """Make a call to both, and tell whether it was a commit that was refused."""
        if len(plain.open) < 3 or (len(plain.open) < 8 and draw.random() < 0.15):
            self.assertSame(store.begin(), plain.begin())
            return False
        number = draw.choice(sorted(plain.open)) if draw.random() < 0.97 else draw.randrange(12)
        way = draw.choice(("query", "look", "change", "change", "change", "edit", "commit", "commit", "commit"))
        if draw.random() < 0.06:
            way = draw.choice(("drop", "sweep"))
        if way == "sweep":
            self.assertSame(store.sweep(), plain.sweep())
            return False
        rest = {
            "query": lambda: (read_query(draw.choice(("from city as c top 1 by c.id down",
                                                      "from person as p where never",
                                                      "from note as n with city as c read n.on"))),),
            "look": lambda: draw.choice((("city", (draw.choice(CITIES),)), ("person", (draw.randrange(5),)))),
            "change": lambda: (town_change(draw),),
            "edit": lambda: (town_delta(draw, plain.open[number]["seen"] if number in plain.open else TOWN_BOOK),),
        }.get(way, tuple)()
        wanted = outcome(getattr(plain, way), number, *rest)
        self.assertSame(outcome(getattr(store, way), number, *rest), wanted, (way, number, rest))
        return way == "commit" and wanted == ("raised", (("word", "NotSerial"),))

    def compare(self, draw, store, plain):
        self.assertSame(store.book, plain.book)
        self.assertSame(store.history, plain.history)
        self.assertSame(store.under_way, tuple(sorted(plain.open)))
        for number in store.under_way:
            self.assertSame(store.seen(number), plain.open[number]["seen"])
            self.assertSame(store.own(number), plain.own(number))
            self.assertSame(store.reads(number), plain.reads(number))
            if draw.random() < 0.2:
                self.ahead(store, plain, number)
        for table, keys in (("city", [(city,) for city in CITIES]), ("person", [(at,) for at in range(5)]),
                            ("note", [(None, at) for at in range(5)])):
            for key in keys:
                self.assertSame(store.versions(table, key), plain.versions(table, key), (table, key))
        for count, book in enumerate(plain.books):
            if count < plain.horizon:
                self.assertFails(Swept, {"count": count}, store.book_at, count)
            else:
                self.assertSame(store.book_at(count), book)

    def ahead(self, store, plain, number):
        twin = copy.deepcopy(plain)
        ring = store.ring_ahead(number)
        longer = (*plain.history, plain.record(number))
        try:
            twin.commit(number)
        except NotSerial:
            self.assertTrue(is_ring(TOWN, longer, ring))
        else:
            self.assertIsNone(ring)

    def check_orders(self, draw, store):
        """Any right order of the history, applied to the original book, gives the committed book."""
        order = serial_order(TOWN, store.history)
        self.assertSame(replay(TOWN, TOWN_BOOK, store.history, order), store.book)
        numbers = list(range(len(store.history)))
        self.assertSame(replay(TOWN, TOWN_BOOK, store.history, tuple(numbers)), store.book)
        for _ in range(20):
            at = draw.randrange(max(1, len(numbers) - 1))
            other = list(order)
            other[at:at + 2] = other[at:at + 2][::-1]
            if is_order(TOWN, store.history, tuple(other)):
                order = tuple(other)
                self.assertSame(replay(TOWN, TOWN_BOOK, store.history, order), store.book)

    def test_all_orders_of_short_histories(self):
        draw = random.Random(7)
        for _ in range(40):
            store = VersionStore(TOWN, TOWN_BOOK)
            while len(store.history) < 5:
                if len(store.under_way) < 3:
                    store.begin()
                number = draw.choice(store.under_way)
                outcome(store.change, number, town_change(draw))
                if draw.random() < 0.4:
                    outcome(store.commit, number)
            for order in itertools.permutations(range(5)):
                if is_order(TOWN, store.history, order):
                    self.assertSame(replay(TOWN, TOWN_BOOK, store.history, order), store.book)


class TestHelpers(VersionCase):
    def test_drawn_things(self):
        """Most of the changes and deltas that are drawn do something."""
        self.assertTrue(is_book(TOWN, TOWN_BOOK))
        draw = random.Random(2)
        store, done = VersionStore(TOWN, TOWN_BOOK), 0
        store.begin()
        for _ in range(200):
            try:
                done += len(store.change(0, town_change(draw))) > 0
                delta = town_delta(draw, store.seen(0))
                self.assertSame(apply_delta(TOWN, store.seen(0), delta), apply_delta(TOWN, store.seen(0), delta))
                store.edit(0, delta)
                done += 1
            except StoreError:
                pass
        self.assertGreater(done, 80)
        self.assertIsNone(row_at(TOWN, TOWN_BOOK, "city", ("b",)))


if __name__ == "__main__":
    unittest.main()
