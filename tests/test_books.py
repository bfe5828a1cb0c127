"""Points 20, 21 and 23 to 25: books, how they are made, and their references."""

import itertools
import random
import unittest

from storedesk.books import counts_of, dangling, empty_book, is_book, make_book, row_at, rows_of
from storedesk.errors import BadKind, BadWidth, CheckFailed, Dangling, KeyTaken, NoTable
from tests.samples import ANT_ROWS, BOOK, MARKS, MARK_ROWS, RING, SCHEMA, TRUTHS, ZOO, ZOO_ROWS, ants, marks, zoo
from tests.support import StoreCase, exact

class TestEmptyBook(StoreCase):
    def test_empty(self):
        self.assertCall(empty_book, {"schema": SCHEMA}, (("zoo", ()), ("ants", ()), ("marks", ())))
        self.assertCall(empty_book, {"schema": (MARKS, ZOO)}, (("marks", ()), ("zoo", ())))
        self.assertCall(empty_book, {"schema": ()}, ())
        self.assertSame(is_book(SCHEMA, empty_book(SCHEMA)), True)


class TestMakeBook(StoreCase):
    def made(self, schema, tables, wanted):
        self.assertCall(make_book, {"schema": schema, "tables": tables}, wanted)
        self.assertCall(make_book, {"schema": schema, "tables": tuple(tables)}, wanted)
        listed = [(name, list(rows)) for name, rows in tables]
        self.assertCall(make_book, {"schema": schema, "tables": listed}, wanted)
        self.assertSame(is_book(schema, wanted), True)

    def wrong(self, error, attributes, *tables, schema=SCHEMA):
        self.assertFails(error, attributes, make_book, schema, tables)
        self.assertFails(error, attributes, make_book, tables=[(name, list(rows)) for name, rows in tables],
                         schema=schema)

    def test_without_pairs(self):
        self.made((), [], ())
        self.made(SCHEMA, [], empty_book(SCHEMA))
        self.made(SCHEMA, [ants()], empty_book(SCHEMA))

    def test_rows_and_pairs_in_any_order(self):
        for rows in itertools.permutations(ANT_ROWS):
            self.made(SCHEMA, [marks(*MARK_ROWS), ants(*rows), zoo(*ZOO_ROWS)], BOOK)
        for rows in itertools.permutations(MARK_ROWS):
            self.made(SCHEMA, [zoo(*ZOO_ROWS), marks(*rows), ants(*ANT_ROWS)], BOOK)

    def test_several_pairs_of_one_table(self):
        self.made(SCHEMA, [zoo(ZOO_ROWS[1]), ants(*ANT_ROWS[1:]), zoo(), marks(*MARK_ROWS), ants(ANT_ROWS[0]),
                           zoo(ZOO_ROWS[0])], BOOK)

    def test_table_without_a_pair(self):
        self.made(SCHEMA, [zoo(*ZOO_ROWS)], (zoo(*ZOO_ROWS), ants(), marks()))
        self.made(SCHEMA, [marks(*MARK_ROWS)], (zoo(), ants(), marks(*MARK_ROWS)))

    def test_order_of_keys(self):
        rows = [(key, None) for key in ("b", 10, True, None, "a", 2, -1, False, "", 1, 0)]
        ordered = tuple([(key, None) for key in (None, False, True, -1, 0, 1, 2, 10, "", "a", "b")])
        self.made(SCHEMA, [("zoo", rows)], (("zoo", ordered), ants(), marks()))
        # By key, not by row: the key of marks begins with its second column.
        rows = [(2, 1, None, None), (1, 2, None, None), (True, 2, None, None), (3, 1, None, None)]
        self.made(SCHEMA, [("marks", rows)], (zoo(), ants(), marks(rows[0], rows[3], rows[2], rows[1])))

    def test_references_kept(self):
        self.made(SCHEMA, [ants((7, None, 7, 1))], (zoo(), ants((7, None, 7, 1)), marks()))
        self.made(SCHEMA, [marks((1, 2, 2, 1))], (zoo(), ants(), marks((1, 2, 2, 1))))
        for of_y, of_x in ((None, None), (None, 5), (5, None)):
            self.made(SCHEMA, [marks((1, 2, of_y, of_x))], (zoo(), ants(), marks((1, 2, of_y, of_x))))
        ring = (("p", ((1, 2), (2, None))), ("q", ((1, None), (2, 1))))
        self.made(RING, [ring[1], ring[0]], ring)

    def test_no_table(self):
        self.wrong(NoTable, {"table": "fish"}, ("fish", ()))
        self.wrong(NoTable, {"table": "fish"}, zoo(), ("fish", ()), ("cows", ()))
        self.wrong(NoTable, {"table": "cows"}, ants((1,)), ("cows", ()), ("fish", ()))
        self.wrong(NoTable, {"table": "zoo"}, zoo(), schema=())

    def test_rows_that_do_not_fit(self):
        self.wrong(BadWidth, {"table": "ants", "row": (1, "a")}, zoo(*ZOO_ROWS), ants(ANT_ROWS[0], (1, "a")))
        self.wrong(BadWidth, {"table": "zoo", "row": (1,)}, ants(()), zoo((1,), ()))
        self.wrong(BadWidth, {"table": "zoo", "row": ()}, ants(()), zoo(()), zoo((1,)))
        self.wrong(BadWidth, {"table": "marks", "row": (1,)}, zoo((1, 1)), marks((1,)), ants((None, None, True, 0)))
        self.wrong(BadKind, {"table": "zoo", "column": "city"}, ants((None, 1, 1, 1)), zoo(("a", 1)))
        self.wrong(BadKind, {"table": "ants", "column": "queen"}, ants((1, 1, True, 0), (None, 1, 1, 1)))
        self.wrong(BadKind, {"table": "ants", "column": "id"}, ants((None, 1, 1, 1)), ants((1, 1, True, 0)))
        self.wrong(CheckFailed, {"table": "ants", "check": 1}, ants((1, None, None, 100), (2, None, None, 0)))
        self.wrong(CheckFailed, {"table": "ants", "check": 0}, ants((2, None, None, 0), (1, None, None, 100)))

    def test_rows_in_the_order_of_the_schema(self):
        schema = tuple([(name, (("a", "number"),), ("a",), (),
                         (("compare", "!=", ("column", "a"), ("value", 0)),)) for name in "cab"])
        for row, error, attributes in (((), BadWidth, {"row": ()}), (("",), BadKind, {"column": "a"}),
                                       ((0,), CheckFailed, {"check": 0})):
            for tables in itertools.permutations([("a", (row,)), ("b", (row,)), ("c", (row,))]):
                self.wrong(error, {"table": "c", **attributes}, *tables, schema=schema)
                self.wrong(error, {"table": "a", **attributes}, *[pair for pair in tables if pair[0] != "c"],
                           schema=schema)

    def test_key_taken(self):
        first, second = ("a", "x"), ("a", "y")
        self.wrong(KeyTaken, {"table": "zoo", "key": ("a",)}, zoo(first, second))
        self.wrong(KeyTaken, {"table": "zoo", "key": ("a",)}, zoo(first, ("b", None), first))
        self.wrong(KeyTaken, {"table": "zoo", "key": ("a",)}, zoo(first), zoo(second))
        self.wrong(KeyTaken, {"table": "zoo", "key": (1,)}, zoo(("b", None), (2, None), (1, None), (2, None),
                                                                ("b", None), (1, None)))
        self.wrong(KeyTaken, {"table": "zoo", "key": (True,)},
                   zoo((1, None), (True, None), (0, None), (True, "x"), (1, "x")))
        self.wrong(KeyTaken, {"table": "zoo", "key": ("b",)}, ants((1, None, None, 1), (1, None, None, 2)),
                   zoo(("b", None), ("b", None)))
        self.wrong(KeyTaken, {"table": "ants", "key": (1,)}, marks((1, 1, None, None), (1, 1, None, None)),
                   ants((1, None, None, 1), (1, None, None, 2)))
        self.wrong(KeyTaken, {"table": "marks", "key": (1, 3)},
                   marks((1, 2, None, 1), (3, 1, None, 1), (1, 2, None, 2), (3, 1, None, 2)))

    def test_keys_that_differ_as_true_and_1_do(self):
        rows = ((False, None), (True, None), (0, None), (1, None))
        self.made(SCHEMA, [("zoo", rows)], (("zoo", rows), ants(), marks()))
        rows = ((1, True, None, None), (True, 1, None, None), (1, 1, None, None))
        self.made(SCHEMA, [("marks", rows)], (zoo(), ants(), ("marks", rows)))

    def test_dangling(self):
        self.wrong(Dangling, {"table": "ants", "reference": 0, "key": (1,)}, ants((1, "a", None, 1)))
        self.wrong(Dangling, {"table": "ants", "reference": 1, "key": (1,)}, ants((1, None, 2, 1)))
        self.wrong(Dangling, {"table": "ants", "reference": 0, "key": (2,)}, ants((3, "a", 9, 1), (2, "a", 9, 1)))
        self.wrong(Dangling, {"table": "ants", "reference": 1, "key": (2,)}, marks((1, 1, 5, 5)),
                   ants((3, "a", 9, 1), (2, None, 9, 1)))
        self.wrong(Dangling, {"table": "marks", "reference": 0, "key": (2, 1)}, marks((1, 2, 1, 2)))
        turned = (("b", (("id", "number"),), ("id",), (), ()), ("a", (("b", "any"),), ("b",), ((("b",), "b"),), ()))
        self.wrong(Dangling, {"table": "a", "reference": 0, "key": (2,)}, ("a", ((1,), (3,), (2,))), ("b", ((1,),)),
                   schema=turned)

    def test_truths_refer_to_no_numbers(self):
        self.wrong(Dangling, {"table": "t", "reference": 0, "key": (1,)}, ("t", ((1, True),)), schema=TRUTHS)
        self.wrong(Dangling, {"table": "t", "reference": 0, "key": (True,)}, ("t", ((True, 1),)), schema=TRUTHS)
        self.wrong(Dangling, {"table": "t", "reference": 0, "key": (0,)}, ("t", ((0, False),)), schema=TRUTHS)
        self.made(TRUTHS, [("t", ((1, True), (True, 1)))], (("t", ((True, 1), (1, True))),))

    def test_several_errors(self):
        """Of all the errors that are due, the one with the least number in point 6 is raised."""
        steps = [
            (("fish", ()), NoTable, {"table": "fish"}),
            (marks((1,)), BadWidth, {"table": "marks", "row": (1,)}),
            (ants((9, None, "", 1)), BadKind, {"table": "ants", "column": "queen"}),
            (ants((8, None, None, 0)), CheckFailed, {"table": "ants", "check": 0}),
            (marks((5, 5, None, 0), (5, 5, None, 1)), KeyTaken, {"table": "marks", "key": (5, 5)}),
            (ants((7, "none", None, 1)), Dangling, {"table": "ants", "reference": 0, "key": (7,)}),
        ]
        for at, (_, error, attributes) in enumerate(steps):
            tables = [pair for pair, _, _ in steps[at:]]
            self.wrong(error, attributes, *tables)
            self.wrong(error, attributes, *reversed(tables))

    def test_what_was_passed_is_not_kept(self):
        rows = [("b", None), ("a", None)]
        tables = [("zoo", rows)]
        book = make_book(SCHEMA, tables)
        rows.append(("c", None))
        tables.append(ants((1, None, None, 1)))
        self.assertSame(book, (zoo(("a", None), ("b", None)), ants(), marks()))


class TestIsBook(StoreCase):
    def check(self, wanted, *book, schema=SCHEMA):
        self.assertCall(is_book, {"schema": schema, "book": book}, wanted)

    def test_books(self):
        self.check(True, *BOOK)
        self.check(True, schema=())
        self.check(True, zoo(), ants(), marks())
        self.check(True, ("p", ((1, 1),)), ("q", ((1, 1),)), schema=RING)

    def test_tables(self):
        self.check(False)
        self.check(False, *BOOK[:2])
        self.check(False, *BOOK[1:])
        self.check(False, *BOOK, zoo())
        self.check(False, *BOOK, ("fish", ()))
        self.check(False, zoo(), schema=())
        self.check(False, zoo(), zoo(), marks())
        self.check(False, zoo(), ("fish", ()), marks())
        for pairs in itertools.permutations((zoo(), ants(), marks())):
            self.check(pairs == (zoo(), ants(), marks()), *pairs)

    def test_rows_that_do_not_fit(self):
        for row in ((), (1,), (1, None, None), (1, None, None, 1, 1), (None, None, None, 1), (True, None, None, 1),
                    (1, None, "", 1),
                    (1, None, None, 0), (1, None, None, 100), (1, None, None, True)):
            self.check(False, zoo(), ants(row), marks())
            self.check(False, zoo(), ants(row, (2, None, None, 1)), marks())
            self.check(False, zoo(), ants((0, None, None, 1), row), marks())
        self.check(True, zoo(), ants((0, None, None, 1), (1, None, None, 99)), marks())
        self.check(False, zoo(), ants(), marks((1, 1, 1)))
        self.check(False, zoo((1, 1)), ants(), marks())

    def test_order_of_rows(self):
        for rows in itertools.permutations(ANT_ROWS):
            self.check(rows == ANT_ROWS, zoo(*ZOO_ROWS), ants(*rows), marks())
        self.check(False, zoo(("a", None), ("a", None)), ants(), marks())
        self.check(False, zoo(("a", None), ("a", "x")), ants(), marks())
        self.check(False, zoo((1, None), (True, None)), ants(), marks())
        self.check(True, zoo((True, None), (1, None)), ants(), marks())
        self.check(True, zoo(), ants(), marks((2, 1, None, None), (1, 2, None, None)))
        self.check(False, zoo(), ants(), marks((1, 2, None, None), (2, 1, None, None)))

    def test_references(self):
        self.check(False, zoo(), ants((1, "a", None, 1)), marks())
        self.check(False, zoo(("a", None)), ants((1, "a", 2, 1)), marks())
        self.check(True, zoo(("a", None)), ants((1, "a", 1, 1)), marks())
        self.check(False, zoo((1, None)), ants((1, True, None, 1)), marks())
        self.check(False, zoo(), ants(), marks((1, 2, 1, 2)))
        self.check(False, ("p", ((1, 2),)), ("q", ((1, 1),)), schema=RING)
        self.check(False, ("p", ((1, 1),)), ("q", ((1, 2),)), schema=RING)


class TestRows(StoreCase):
    def test_rows_of(self):
        self.assertCall(rows_of, {"book": BOOK, "table": "zoo"}, list(ZOO_ROWS))
        self.assertCall(rows_of, {"book": BOOK, "table": "ants"}, list(ANT_ROWS))
        self.assertCall(rows_of, {"book": BOOK, "table": "marks"}, list(MARK_ROWS))
        self.assertCall(rows_of, {"book": empty_book(SCHEMA), "table": "ants"}, [])
        self.assertFails(NoTable, {"table": "fish"}, rows_of, BOOK, "fish")
        self.assertFails(NoTable, {"table": "ants"}, rows_of, book=(), table="ants")

    def test_row_at(self):
        for table, at, rows in (("zoo", (0,), ZOO_ROWS), ("ants", (0,), ANT_ROWS), ("marks", (1, 0), MARK_ROWS)):
            for row in rows:
                key = tuple([row[place] for place in at])
                self.assertCall(row_at, {"schema": SCHEMA, "book": BOOK, "table": table, "key": key}, row)
        for table, key in (
            ("zoo", ()), ("zoo", ("c",)), ("zoo", (None,)), ("zoo", ("a", None)), ("ants", (4,)), ("ants", (True,)),
            ("ants", ("1",)),
            ("ants", (1, "a")), ("marks", (1,)), ("marks", (1, 3)), ("marks", (1, True)), ("marks", (1, 0)),
            ("marks", (1, 1, None)),
        ):
            self.assertCall(row_at, {"schema": SCHEMA, "book": BOOK, "table": table, "key": key}, None)
        self.assertSame(row_at(SCHEMA, empty_book(SCHEMA), "ants", (1,)), None)
        self.assertFails(NoTable, {"table": "fish"}, row_at, SCHEMA, BOOK, "fish", (1,))
        self.assertFails(NoTable, {"table": "fish"}, row_at, schema=(), book=(), table="fish", key=())

    def test_row_at_with_keys_that_differ_as_true_and_1_do(self):
        rows = ((False, "a"), (True, "b"), (0, "c"), (1, "d"))
        book = make_book(SCHEMA, [("zoo", rows)])
        for row in rows:
            self.assertSame(row_at(SCHEMA, book, "zoo", row[:1]), row)
        self.assertSame(row_at(SCHEMA, make_book(SCHEMA, [zoo((1, None))]), "zoo", (True,)), None)

    def test_counts_of(self):
        self.assertCall(counts_of, {"book": BOOK}, {"zoo": 2, "ants": 3, "marks": 3})
        self.assertCall(counts_of, {"book": empty_book(SCHEMA)}, {"zoo": 0, "ants": 0, "marks": 0})
        self.assertCall(counts_of, {"book": ()}, {})


class TestDangling(StoreCase):
    def check(self, wanted, *book, schema=SCHEMA):
        self.assertCall(dangling, {"schema": schema, "book": book}, wanted)
        self.assertSame(is_book(schema, book), wanted == [])

    def test_none(self):
        self.check([], *BOOK)
        self.check([], schema=())
        self.check([], zoo(), ants(), marks())

    def test_order(self):
        self.check(
            [("ants", 0, (1,)), ("ants", 0, (2,)), ("ants", 1, (2,)), ("ants", 1, (3,)), ("marks", 0, (1, 2)),
             ("marks", 0, (2, 1))],
            zoo(("b", None)), ants((1, "a", None, 1), (2, "a", 9, 1), (3, "b", 8, 1), (4, "b", 1, 1)),
            marks((1, 1, 1, 1), (2, 1, 1, 3), (1, 2, 9, 9)),
        )
        self.check([("q", 0, (2,)), ("p", 0, (1,))], ("q", ((1, 1), (2, 2))), ("p", ((1, 7),)),
                   schema=(RING[1], RING[0]))

    def test_none_in_a_column(self):
        self.check([("marks", 0, (4, 1))], zoo(), ants(), marks((1, 1, None, 7), (1, 2, 7, None), (1, 3, None, None),
                                                                (1, 4, 7, 7)))

    def test_falsehood_and_zero_are_not_none(self):
        self.check([("t", 0, (1,)), ("t", 0, (2,)), ("t", 0, (3,))], ("t", ((1, 0), (2, False), (3, ""))),
                   schema=TRUTHS)

    def test_truths_are_no_numbers(self):
        self.check([("t", 0, (1,))], ("t", ((False, None), (1, True))), schema=TRUTHS)
        self.check([("t", 0, (0,)), ("t", 0, (1,))], ("t", ((0, True), (1, False))), schema=TRUTHS)
        self.check([], ("t", ((True, True), (1, 1))), schema=TRUTHS)

    def test_a_column_twice_in_a_reference(self):
        schema = (("t", (("x", "any"), ("y", "any"), ("z", "any")), ("x", "y"), ((("z", "z"), "t"),), ()),)
        rows = ((1, 1, 1), (1, 2, 2), (2, 1, 1), (3, 3, None), (4, 4, True))
        self.check([("t", 0, (1, 2)), ("t", 0, (4, 4))], ("t", rows), schema=schema)

    def test_random_books(self):
        draw = random.Random(24)
        values = (None, 0, 1, 2, True, False)
        for _ in range(300):
            keys = {}
            for _ in range(draw.randrange(7)):
                row = tuple([draw.choice(values) for _ in range(4)])
                keys[repr((row[1], row[0]))] = row
            rows = sorted(keys.values(), key=lambda row: [place_of(row[1]), place_of(row[0])])
            present = [exact((row[1], row[0])) for row in rows]
            wanted = []
            for row in rows:
                if None not in row[2:] and exact(row[2:]) not in present:
                    wanted.append(("marks", 0, (row[1], row[0])))
            self.check(wanted, zoo(), ants(), ("marks", tuple(rows)))


def place_of(value):
    return [exact(known) for known in (None, False, True, 0, 1, 2)].index(exact(value))


if __name__ == "__main__":
    unittest.main()
