"""Points 33 and 34: the deltas of changes, and their errors."""

import copy
import itertools
import random
import unittest

from storedesk.books import is_book, make_book
from storedesk.changes import change_delta
from storedesk.deltas import apply_delta
from storedesk.errors import BadKind, BadWidth, CheckFailed, Dangling, KeyTaken, NoColumn, NoTable, Repeated
from tests import drawn
from tests.samples import BOOK, SCHEMA, TRUTHS, ants, marks, zoo
from tests.support import StoreCase


def value(content):
    return ("value", content)


def column(name):
    return ("column", name)


def compare(name, op, content):
    return ("compare", op, column(name), value(content))


ALL = ("true",)
# The table alone, to which no row refers.
LONE = {"schema": SCHEMA[:1], "book": BOOK[:1]}
LOOSE = (("t", (("k", "any"), ("n", "number"), ("x", "any")), ("k",), (), (compare("n", "<", 100),)),)


class ChangeCase(StoreCase):
    def delta(self, change, *edits, schema=SCHEMA, book=BOOK):
        self.assertCall(change_delta, {"schema": schema, "book": book, "change": change}, tuple(edits))

    def wrong(self, error, attributes, change, schema=SCHEMA, book=BOOK):
        before = copy.deepcopy((schema, book, change))
        self.assertFails(error, attributes, change_delta, schema, book, change)
        self.assertFails(error, attributes, change_delta, change=change, book=book, schema=schema)
        self.assertSame((schema, book, change), before)


class TestPuts(ChangeCase):
    def test_rows(self):
        self.delta(("put", "zoo", (("c", "Oslo"),)), ("zoo", ("c",), None, ("c", "Oslo")))
        self.delta(("put", "zoo", (("d", None), (True, None), ("c", "x"), (1, "y"))),
                   ("zoo", (True,), None, (True, None)), ("zoo", (1,), None, (1, "y")), ("zoo", ("c",), None, ("c",
                                                                                                               "x")),
                   ("zoo", ("d",), None, ("d", None)))
        self.delta(("put", "marks", ((5, 0, None, None),)), ("marks", (0, 5), None, (5, 0, None, None)))

    def test_references(self):
        self.delta(("put", "ants", ((4, "b", 5, 1), (5, "a", 4, 1))),
                   ("ants", (4,), None, (4, "b", 5, 1)), ("ants", (5,), None, (5, "a", 4, 1)))
        self.delta(("put", "ants", ((4, None, 4, 1),)), ("ants", (4,), None, (4, None, 4, 1)))

    def test_keys_taken(self):
        for row in (("a", None), ("a", "x")):
            self.wrong(KeyTaken, {"table": "zoo", "key": ("a",)}, ("put", "zoo", (row,)))
        self.wrong(KeyTaken, {"table": "zoo", "key": ("c",)}, ("put", "zoo", (("c", None), ("c", None))))
        self.wrong(KeyTaken, {"table": "zoo", "key": ("c",)}, ("put", "zoo", (("d", None), ("c", "x"), ("d", "y"),
                                                                              ("c", None))))
        rows = (("b", None), ("a", None), (0, "x"), (0, None))
        self.wrong(KeyTaken, {"table": "zoo", "key": (0,)}, ("put", "zoo", rows))
        rows = ((2, 1, None, None), (1, 1, None, None))
        self.wrong(KeyTaken, {"table": "marks", "key": (1, 1)}, ("put", "marks", rows))

    def test_true_is_not_one(self):
        self.delta(("put", "zoo", ((1, None), (True, None), (0, None), (False, None))),
                   ("zoo", (False,), None, (False, None)), ("zoo", (True,), None, (True, None)),
                   ("zoo", (0,), None, (0, None)), ("zoo", (1,), None, (1, None)))


class TestTakes(ChangeCase):
    def test_rows(self):
        row = BOOK[1][1]
        self.delta(("take", "ants", compare("size", ">", 5)), ("ants", (2,), row[1], None), ("ants", (3,), row[2],
                                                                                             None))
        self.delta(("take", "ants", ALL), *[("ants", (at + 1,), row[at], None) for at in range(3)])
        self.delta(("take", "zoo", compare("code", "=", "b")), ("zoo", ("b",), ("b", "Rome"), None), **LONE)
        self.delta(("take", "marks", compare("y", "=", 2)), ("marks", (2, 0), (0, 2, 1, 1), None))

    def test_nothing_changes(self):
        self.delta(("take", "ants", ("false",)))
        self.delta(("take", "ants", compare("size", ">", 7)))
        self.delta(("take", "zoo", ALL), schema=SCHEMA, book=(zoo(), ants(), marks()))

    def test_a_row_that_is_referred_to(self):
        self.wrong(Dangling, {"table": "ants", "reference": 0, "key": (1,)}, ("take", "zoo", compare("code", "=", "a")))
        self.wrong(Dangling, {"table": "ants", "reference": 1, "key": (2,)}, ("take", "ants", compare("id", "=", 1)))
        self.delta(("take", "ants", compare("id", "<", 3)), ("ants", (1,), BOOK[1][1][0], None),
                   ("ants", (2,), BOOK[1][1][1], None))


class TestSets(ChangeCase):
    def test_values(self):
        self.delta(("set", "zoo", (("city", value("x")),), ALL),
                   ("zoo", ("a",), ("a", None), ("a", "x")), ("zoo", ("b",), ("b", "Rome"), ("b", "x")))
        self.delta(("set", "zoo", (("city", value(None)),), compare("code", "=", "b")),
                   ("zoo", ("b",), ("b", "Rome"), ("b", None)))

    def test_nothing_changes(self):
        self.delta(("set", "zoo", (("city", column("city")),), ALL))
        self.delta(("set", "zoo", (("city", value("Rome")),), compare("code", "=", "b")))
        self.delta(("set", "zoo", (("city", value("Oslo")),), ("false",)))
        self.delta(("set", "zoo", (("city", value("Rome")),), ALL), ("zoo", ("a",), ("a", None), ("a", "Rome")))

    def test_a_value_as_it_was_before(self):
        book = make_book(LOOSE, [("t", [("a", 1, 2), ("b", 3, 4)])])
        for assignments in ((("n", column("x")), ("x", column("n"))), (("x", column("n")), ("n", column("x")))):
            self.delta(("set", "t", assignments, ALL),
                       ("t", ("a",), ("a", 1, 2), ("a", 2, 1)), ("t", ("b",), ("b", 3, 4), ("b", 4, 3)),
                       schema=LOOSE, book=book)
        self.delta(("set", "t", (("x", column("k")), ("k", value("c"))), compare("k", "=", "a")),
                   ("t", ("a",), ("a", 1, 2), None), ("t", ("c",), None, ("c", 1, "a")), schema=LOOSE, book=book)

    def test_the_condition_is_that_of_the_row_before(self):
        book = make_book(LOOSE, [("t", [("a", 1, 0), ("b", 2, 0)])])
        self.delta(("set", "t", (("n", value(2)),), compare("n", "=", 1)), ("t", ("a",), ("a", 1, 0), ("a", 2, 0)),
                   schema=LOOSE, book=book)

    def test_another_key(self):
        self.delta(("set", "zoo", (("code", value("c")),), compare("code", "=", "b")),
                   ("zoo", ("b",), ("b", "Rome"), None), ("zoo", ("c",), None, ("c", "Rome")), **LONE)
        self.delta(("set", "zoo", (("code", value(True)),), compare("code", "=", "b")),
                   ("zoo", (True,), None, (True, "Rome")), ("zoo", ("b",), ("b", "Rome"), None), **LONE)

    def test_rows_exchange_their_keys(self):
        book = make_book(LOOSE, [("t", [(1, 2, 0), (2, 1, 0), (3, 3, 3)])])
        self.delta(("set", "t", (("k", column("n")),), ALL),
                   ("t", (1,), (1, 2, 0), (1, 1, 0)), ("t", (2,), (2, 1, 0), (2, 2, 0)), schema=LOOSE, book=book)
        self.delta(("set", "t", (("k", column("n")), ("n", column("k"))), ALL), schema=LOOSE, book=book)
        book = make_book(LOOSE, [("t", [(1, 2, 0), (2, 3, 0)])])
        self.delta(("set", "t", (("k", column("n")),), ALL),
                   ("t", (1,), (1, 2, 0), None), ("t", (2,), (2, 3, 0), (2, 2, 0)), ("t", (3,), None, (3, 3, 0)),
                   schema=LOOSE, book=book)

    def test_true_is_not_one(self):
        book = make_book(LOOSE, [("t", [(1, 0, 1), (True, 0, True)])])
        self.delta(("set", "t", (("x", value(True)),), ALL), ("t", (1,), (1, 0, 1), (1, 0, True)), schema=LOOSE,
                   book=book)
        self.delta(("set", "t", (("x", value(1)),), ALL), ("t", (True,), (True, 0, True), (True, 0, 1)), schema=LOOSE,
                   book=book)
        self.delta(("set", "t", (("k", value("z")),), ("and", compare("k", "=", True), compare("x", "=", True))),
                   ("t", (True,), (True, 0, True), None), ("t", ("z",), None, ("z", 0, True)), schema=LOOSE, book=book)

    def test_keys_taken(self):
        self.wrong(KeyTaken, {"table": "zoo", "key": ("b",)}, ("set", "zoo", (("code", value("b")),), compare("code",
                                                                                                              "=",
                                                                                                              "a")))
        self.wrong(KeyTaken, {"table": "zoo", "key": ("c",)}, ("set", "zoo", (("code", value("c")),), ALL))
        book = make_book(LOOSE, [("t", [(1, 5, 0), (2, 5, 0), (3, 4, 0), (4, 9, 0)])])
        self.wrong(KeyTaken, {"table": "t", "key": (4,)}, ("set", "t", (("k", column("n")),), compare("k", "<", 4)),
                   LOOSE, book)
        self.wrong(KeyTaken, {"table": "t", "key": (5,)}, ("set", "t", (("k", column("n")),), ALL), LOOSE, book)

    def test_references(self):
        self.wrong(Dangling, {"table": "ants", "reference": 0, "key": (1,)}, ("set", "zoo", (("code", value("c")),),
                                                                            compare("code", "=", "a")))
        self.wrong(Dangling, {"table": "ants", "reference": 1, "key": (2,)}, ("set", "ants", (("queen", value(9)),),
                                                                            compare("id", "=", 2)))
        self.delta(("set", "ants", (("id", column("size")), ("queen", value(None))), ALL),
                   *sorted([("ants", (row[0],), row, None) for row in BOOK[1][1]]
                           + [("ants", (row[3],), None, (row[3], row[1], None, row[3])) for row in BOOK[1][1]]))
        self.delta(("set", "t", (("to", value(1)),), ALL), ("t", (True,), (True, True), (True, 1)),
                   schema=TRUTHS, book=make_book(TRUTHS, [("t", [(1, 1), (True, True)])]))
        self.wrong(Dangling, {"table": "t", "reference": 0, "key": (1,)}, ("set", "t", (("to", value(True)),), ALL),
                   TRUTHS,
                   make_book(TRUTHS, [("t", [(1, 1)])]))


class TestErrors(ChangeCase):
    def test_no_table(self):
        for change in (("put", "cows", ((1,),)), ("take", "cows", compare("none_such", "=", 1)),
                       ("set", "cows", (("x", value(1)), ("x", value(1))), ALL)):
            self.wrong(NoTable, {"table": "cows"}, change)
            self.wrong(NoTable, {"table": "cows"}, change, (), ())

    def no_column(self, label, change):
        self.wrong(NoColumn, {"label": label}, change)
        self.wrong(NoColumn, {"label": label}, change, book=(zoo(), ants(), marks()))

    def test_no_column(self):
        for label in ("cod", "zoo.code", "id", "x.y"):
            self.no_column(label, ("take", "zoo", compare(label, "=", 1)))
            self.no_column(label, ("take", "zoo", ("and", ("false",), ("not", compare(label, "=", 1)))))
            self.no_column(label, ("set", "zoo", (("city", column(label)),), ALL))
            self.no_column(label, ("set", "zoo", (("city", value("x")),), compare(label, "=", 1)))
            self.no_column(label, ("set", "zoo", (("city", value("x")), ("code", column(label))), ("false",)))
        self.no_column("id", ("set", "zoo", (("id", value(1)),), ALL))

    def test_no_column_from_left_to_right(self):
        both = ("compare", "=", column("u"), column("v"))
        self.no_column("u", ("take", "zoo", both))
        self.no_column("u", ("take", "zoo", ("or", compare("code", "=", 1), ("and", compare("u", "=", 1), compare("t",
                                                                                                                  "=",
                                                                                                                  1)))))
        self.no_column("p", ("set", "zoo", (("p", column("q")), ("r", value(1))), both))
        self.no_column("q", ("set", "zoo", (("code", column("q")), ("r", value(1))), both))
        self.no_column("r", ("set", "zoo", (("code", column("code")), ("r", column("s"))), both))
        self.no_column("s", ("set", "zoo", (("code", value("p")), ("city", column("s"))), both))
        self.no_column("u", ("set", "zoo", (("code", column("city")), ("city", value(None))), both))

    def test_repeated(self):
        for condition in (ALL, ("false",)):
            self.wrong(Repeated, {"label": "city"}, ("set", "zoo", (("city", value("x")), ("city", value("x"))),
                                                     condition))
            self.wrong(Repeated, {"label": "zoo"}, ("set", "ants", (("size", value(1)), ("zoo", value(1)), ("zoo",
                                                                                                            value(2)),
                                                                   ("size", value(2))), condition))
        self.delta(("set", "zoo", (("city", column("city")), ("code", column("code"))), ALL))
        self.wrong(Repeated, {"label": "city"}, ("set", "zoo", (("city", value("x")), ("code", column("code")),
                                                                ("city", column("code"))), ALL), book=(zoo(), ants(),
                                                                                                       marks()))

    def test_put_rows_that_do_not_fit(self):
        self.wrong(BadWidth, {"table": "zoo", "row": ("c",)}, ("put", "zoo", ((1, 1), ("c",), ())))
        self.wrong(BadWidth, {"table": "zoo", "row": ()}, ("put", "zoo", (("c", "d"), (), ("c",))))
        self.wrong(BadWidth, {"table": "zoo", "row": ("a", None, 1)}, ("put", "zoo", (("a", 1), ("a", None, 1))))
        self.wrong(BadKind, {"table": "ants", "column": "id"}, ("put", "ants", ((4, None, None, 0), (True, None, None,
                                                                                                     5))))
        self.wrong(BadKind, {"table": "ants", "column": "queen"}, ("put", "ants", ((4, None, "x", "y"), (None, None,
                                                                                                         None, 5))))
        self.wrong(CheckFailed, {"table": "ants", "check": 1}, ("put", "ants", ((4, "none", 9, 100), (1, None, None,
                                                                                                      0))))
        self.wrong(CheckFailed, {"table": "ants", "check": 0}, ("put", "ants", ((4, "none", 9, -1),)))

    def test_set_rows_that_do_not_fit(self):
        self.wrong(BadKind, {"table": "ants", "column": "id"}, ("set", "ants", (("id", value(None)), ("size",
                                                                                                      value("x"))),
                                                                                                      ALL))
        both = (("size", value("x")), ("queen", value(True)))
        self.wrong(BadKind, {"table": "ants", "column": "queen"}, ("set", "ants", both, ALL))
        self.wrong(CheckFailed, {"table": "ants", "check": 1}, ("set", "ants", (("size", value(100)),), compare("id",
                                                                                                                "=",
                                                                                                                3)))
        book = make_book(LOOSE, [("t", [(1, 1, 100), (2, 2, "x"), (3, 3, 100)])])
        # The kinds of all rows come before the checks of any of them.
        self.wrong(BadKind, {"table": "t", "column": "n"}, ("set", "t", (("n", column("x")),), ALL), LOOSE, book)
        self.wrong(CheckFailed, {"table": "t", "check": 0}, ("set", "t", (("n", column("x")),), compare("x", "!=",
                                                                                                        "x")), LOOSE,
                                                                                                        book)
        self.delta(("set", "t", (("n", column("x")),), ("false",)), schema=LOOSE, book=book)

    def test_set_rows_in_the_order_of_those_they_come_from(self):
        schema = (("t", (("k", "number"), ("x", "any"), ("n", "number"), ("m", "number")), ("k",), (),
                   (compare("n", "!=", 7), compare("m", "!=", 7))),)
        book = make_book(schema, [("t", [(1, 7, 0, 0), (2, "a", 0, 0)])])
        # Row 1 breaks the second check only, row 2 the first one; row 1 would stand behind row 2 afterwards.
        change = ("set", "t", (("m", column("x")), ("k", value(9))), compare("k", "=", 1))
        self.wrong(CheckFailed, {"table": "t", "check": 1}, change, schema, book)
        schema = (("t", (("k", "number"), ("x", "any"), ("y", "any"), ("n", "number"), ("m", "text")), ("k",), (), ()),)
        book = make_book(schema, [("t", [(1, 9, 5, 0, ""), (2, 1, "a", 0, "")])])
        change = ("set", "t", (("k", column("x")), ("n", column("y")), ("m", column("y"))), ALL)
        self.wrong(BadKind, {"table": "t", "column": "m"}, change, schema, book)
        book = make_book(schema, [("t", [(1, 9, "a", 0, ""), (2, 1, 5, 0, "")])])
        self.wrong(BadKind, {"table": "t", "column": "n"}, change, schema, book)

    def test_dangling_is_the_first_of_the_book(self):
        self.wrong(Dangling, {"table": "ants", "reference": 0, "key": (1,)}, ("take", "zoo", ALL))
        book = make_book(SCHEMA, [("zoo", [("a", None), ("b", None)]),
                                  ("ants", [(1, "b", None, 1), (2, "a", 4, 1), (3, "a", None, 1), (4, None, None, 1)])])
        self.wrong(Dangling, {"table": "ants", "reference": 0, "key": (2,)}, ("take", "zoo", compare("code", "=",
                                                                                                     "a")), book=book)
        self.wrong(Dangling, {"table": "ants", "reference": 1, "key": (2,)}, ("take", "ants", compare("id", "=", 4)),
                   book=book)
        self.wrong(Dangling, {"table": "ants", "reference": 1, "key": (5,)}, ("put", "ants", ((6, "c", None, 1), (5,
                                                                                                                  "a",
                                                                                                                  9,
                                                                                                                  1))),
                   book=book)

    def test_several_errors(self):
        """The one whose class stands first in point 6 is raised."""
        faults = {
            BadWidth: (("c",), {"table": "ants", "row": ("c",)}), BadKind: ((5, "a", True, 1), {"table": "ants",
                                                                                                "column": "queen"}),
            CheckFailed: ((6, "a", None, 0), {"table": "ants", "check": 0}), KeyTaken: ((1, "a", None, 1),
                                                                                        {"table": "ants", "key": (1,)}),
            Dangling: ((4, "c", None, 1), {"table": "ants", "reference": 0, "key": (4,)}),
        }
        order = list(faults)
        for size in range(1, 6):
            for chosen in itertools.permutations(order, size):
                first = min(chosen, key=order.index)
                rows = tuple([faults[error][0] for error in chosen])
                self.wrong(first, faults[first][1], ("put", "ants", rows))
        twice = (("size", value(0)), ("size", value("x")))
        self.wrong(NoColumn, {"label": "q"}, ("set", "ants", (*twice, ("q", value(1))), ALL))
        self.wrong(NoColumn, {"label": "q"}, ("set", "ants", twice, compare("q", "=", 1)))
        self.wrong(Repeated, {"label": "size"}, ("set", "ants", twice, ALL))
        self.wrong(BadKind, {"table": "ants", "column": "size"}, ("set", "ants", (("id", value(0)), ("size",
                                                                                                     value("x"))), ALL))
        self.wrong(CheckFailed, {"table": "ants", "check": 0}, ("set", "ants", (("id", value(0)), ("size", value(0))),
                                                                ALL))
        self.wrong(KeyTaken, {"table": "ants", "key": (0,)}, ("set", "ants", (("id", value(0)), ("queen", value(8))),
                                                              ALL))
        self.wrong(Dangling, {"table": "ants", "reference": 1, "key": (0,)}, ("set", "ants", (("id", value(0)),
                                                                                              ("queen", value(8))),
                                                                            compare("id", "=", 1)))


class TestDrawn(StoreCase):
    """Changes of drawn books, against changing the rows one by one."""

    def test_changes(self):
        draw = random.Random(34)
        seen = {"delta": 0, "empty": 0, "KeyTaken": 0, "BadKind": 0}
        for _ in range(1500):
            book = drawn.book(draw, 6)
            table, columns = draw.choice((("r", ("id", "a", "b")), ("s", ("k", "a")), ("u", ("x",))))
            change = self.drawn_change(draw, table, columns)
            wanted = self.plain_rows(dict(book)[table], columns, change)
            keys = [self.key(table, row) for row in wanted]
            if table == "r" and [row for row in wanted if drawn.key(row[0])[0] != 2]:
                seen["BadKind"] += 1
                self.assertFails(BadKind, {"table": "r", "column": "id"}, change_delta, drawn.SCHEMA, book, change)
            elif len(set(keys)) < len(keys):
                seen["KeyTaken"] += 1
                taken = min([key for key in keys if keys.count(key) > 1])
                wanted_key = tuple([content for _, content in taken])
                self.assertFails(KeyTaken, {"table": table}, change_delta, drawn.SCHEMA, book, change)
                try:
                    change_delta(drawn.SCHEMA, book, change)
                except KeyTaken as error:
                    self.assertEqual(tuple(drawn.row_order(error.key)), taken, wanted_key)
            else:
                delta = change_delta(drawn.SCHEMA, book, change)
                seen["delta" if delta else "empty"] += 1
                after = apply_delta(drawn.SCHEMA, book, delta)
                self.assertTrue(is_book(drawn.SCHEMA, after))
                ordered = tuple(sorted(wanted, key=lambda row: self.key(table, row)))
                self.assertSame(after, tuple([(name, ordered if name == table else rows) for name, rows in book]))
                places = [(edit[0], tuple(drawn.row_order(edit[1]))) for edit in delta]
                self.assertEqual(places, sorted(set(places)))
        self.assertGreater(min(seen.values()), 30, seen)

    def drawn_change(self, draw, table, columns):
        condition = drawn.condition(draw, columns, draw.randrange(1, 4))
        word = draw.choice(("put", "take", "set", "set"))
        if word == "put":
            cells = [[draw.choice(drawn.VALUES) for _ in columns] for _ in range(draw.randrange(1, 4))]
            rows = [tuple([draw.randrange(9), *row[1:]]) if table == "r" else tuple(row) for row in cells]
            return ("put", table, tuple(rows))
        if word == "take":
            return ("take", table, condition)
        assigned = draw.sample(columns, draw.randrange(1, len(columns) + 1))
        return ("set", table, tuple([(name, drawn.term(draw, columns)) for name in assigned]), condition)

    def plain_rows(self, rows, columns, change):
        if change[0] == "put":
            return [*rows, *change[2]]
        result = []
        for row in rows:
            if not drawn.truth(change[-1], columns, row):
                result.append(row)
            elif change[0] == "set":
                worth = {name: row[columns.index(term[1])] if term[0] == "column" else term[1] for name,
                         term in change[2]}
                result.append(tuple([worth.get(name, old) for name, old in zip(columns, row)]))
        return result

    def key(self, table, row):
        return tuple(drawn.row_order(row[:1] if table == "r" else row))


if __name__ == "__main__":
    unittest.main()
