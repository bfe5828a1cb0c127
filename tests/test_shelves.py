"""Point 54: a book in a page tree, and which of its rows an answer scans."""

import copy
import random
import unittest

from storedesk.answers import answer
from storedesk.books import empty_book, make_book
from storedesk.deltas import difference, inverse
from storedesk.errors import Mismatch, NoColumn, NoTable, NotATree, Repeated, Unlike
from storedesk.pages import entries_of, is_tree
from storedesk.shelves import Shelf
from tests import drawn, paged
from tests.samples import BOOK, SCHEMA
from tests.support import StoreCase

ORDERS = (4, 5, 8, 16)
# The key's first column stands last in the table; keys are of every kind.
PLAIN = (
    ("t", (("x", "any"), ("l", "any"), ("k", "any")), ("k", "l"), (), ()),
    ("one", (("k", "any"),), ("k",), (), ()),
)
KEYS = (None, False, True, -2, 0, 1, 2, 10, "", "1", "a", "b")
PLAIN_BOOK = make_book(PLAIN, [
    ("t", [(at, at % 2, key) for at, key in enumerate(KEYS)] + [("more", "z", True), ("more", "z", 1)]),
    ("one", [(key,) for key in KEYS]),
])
T = ("table", "t", "t")
ONE = ("table", "one", "one")


def compare(op, label, value):
    return ("compare", op, ("column", label), ("value", value))


def backwards(op, value, label):
    return ("compare", op, ("value", value), ("column", label))


def where(tree, *conditions):
    for condition in conditions:
        tree = ("where", tree, condition)
    return tree


def entries_in(schema, book):
    """The entries of a book in the form of point 54."""
    entries = []
    for name, columns, key, _, _ in schema:
        at = [[column for column, _ in columns].index(part) for part in key]
        for row in dict(book)[name]:
            entries.append(((name, *[row[one] for one in at]), row))
    return sorted(entries, key=lambda entry: drawn.row_order(entry[0]))


class ShelfCase(StoreCase):
    def check(self, shelf, schema, book, order):
        """The pages are a right page tree of the order with exactly the entries of the book."""
        self.assertTrue(is_tree(shelf.pages, order))
        self.assertTrue(paged.is_right(shelf.pages, order))
        self.assertSame(entries_of(shelf.pages), entries_in(schema, book))
        self.assertSame(shelf.read_book(), book)


class TestPages(ShelfCase):
    def test_entries(self):
        shelf = Shelf(SCHEMA, BOOK)
        self.assertSame(entries_of(shelf.pages), [
            (("ants", 1), (1, "a", None, 5)), (("ants", 2), (2, "b", 1, 6)), (("ants", 3), (3, None, 3, 7)),
            (("marks", 1, 1), (1, 1, None, 9)), (("marks", 1, 2), (2, 1, 1, 2)), (("marks", 2, 0), (0, 2, 1, 1)),
            (("zoo", "a"), ("a", None)), (("zoo", "b"), ("b", "Rome")),
        ])
        self.assertSame(shelf.read_book(), BOOK)
        self.assertSame(shelf.rows_read, 0)

    def test_creation(self):
        for order in ORDERS:
            for schema, book in ((SCHEMA, BOOK), (SCHEMA, empty_book(SCHEMA)), ((), ()), (PLAIN, PLAIN_BOOK)):
                shelf = Shelf(schema, book, order=order)
                self.check(shelf, schema, book, order)
                self.assertSame(shelf.drain(), [])
                self.check(Shelf(order=order, book=book, schema=schema), schema, book, order)
        self.check(Shelf(PLAIN, PLAIN_BOOK), PLAIN, PLAIN_BOOK, 8)
        self.assertSame(Shelf((), ()).pages, ((0, ("leaf", ())),))

    def test_a_full_book(self):
        rows = [(at, draw, True if at % 2 else 1) for at in range(30) for draw in ("p", "q")]
        schema = tuple([(f"t{at}", (("k", "any"), ("l", "any"), ("x", "any")), ("l", "k"), (), ()) for at in range(6)])
        book = make_book(schema, [(f"t{at}", rows) for at in range(6)])
        for order in (4, 16):
            shelf = Shelf(schema, book, order=order)
            self.check(shelf, schema, book, order)
            self.assertSame(shelf.drain(), [])

    def test_loaded(self):
        draw = random.Random(54)
        for order in ORDERS:
            for schema, book in ((SCHEMA, BOOK), (SCHEMA, empty_book(SCHEMA)), (PLAIN, PLAIN_BOOK)):
                pages = paged.built(draw, entries_in(schema, book), order)
                before = copy.deepcopy(pages)
                shelf = Shelf.loaded(schema, pages, order=order)
                self.assertSame(shelf.pages, pages)
                self.check(shelf, schema, book, order)
                self.assertSame(shelf.drain(), [])
                self.assertSame(shelf.rows_read, 0)
                shelf.apply(difference(schema, book, empty_book(schema)))
                self.check(shelf, schema, empty_book(schema), order)
                self.assertSame(pages, before)
                self.check(Shelf.loaded(order=order, pages=pages, schema=schema), schema, book, order)
        pages = Shelf(PLAIN, PLAIN_BOOK).pages
        self.assertSame(Shelf.loaded(PLAIN, pages).read_book(), PLAIN_BOOK)

    def test_not_a_tree(self):
        book = make_book(PLAIN, [("one", [(at,) for at in range(4)])])
        leaves = entries_in(PLAIN, book)
        good = ((0, ("branch", (("one", 2),), (1, 2))), (1, ("leaf", tuple(leaves[:2]))),
                (2, ("leaf", tuple(leaves[2:]))))
        self.assertSame(Shelf.loaded(PLAIN, good, order=4).read_book(), book)
        low, high = good[1:]
        bad = (
            ((), 4),
            (good[1:], 4),
            (good[::-1], 4),
            ((*good, high), 4),
            (((0, ("branch", (), (1, 2))), low, high), 4),
            (((0, ("branch", (("one", 2),), (1, 3))), low, high), 4),
            (((0, ("branch", (("one", 2),), (1, 0))), low, high), 4),
            (((0, ("branch", (("one", 2), ("one", 3)), (1, 2, 2))), low, high), 4),
            ((*good, (3, ("leaf", ()))), 4),
            ((good[0], low, (2, ("branch", (("one", 3),), (3, 4))), (3, ("leaf", tuple(leaves[2:3]))),
              (4, ("leaf", tuple(leaves[3:])))), 4),
            (good, 6),
            (((0, ("leaf", tuple([((f"{at}",), ()) for at in range(5)]))),), 4),
            (((0, ("branch", (), (1,))), (1, ("leaf", tuple(leaves)))), 4),
            (((0, ("leaf", tuple(leaves[::-1]))),), 4),
            (((0, ("leaf", (leaves[0], leaves[0]))),), 4),
            (((0, ("branch", (("one", 3),), (1, 2))), low, high), 4),
            (((0, ("branch", (("one", 1),), (1, 2))), low, high), 4),
        )
        for pages, order in bad:
            self.assertFails(NotATree, {}, Shelf.loaded, PLAIN, pages, order=order)
        self.assertFails(NotATree, {}, Shelf.loaded, PLAIN, good)
        self.assertFails(NotATree, {}, Shelf.loaded, schema=PLAIN, pages=())

    def test_shelves_beside_each_other(self):
        first, second = Shelf(SCHEMA, BOOK, order=4), Shelf(SCHEMA, BOOK, order=4)
        third = Shelf.loaded(SCHEMA, first.pages, order=4)
        first.apply((("zoo", ("c",), None, ("c", None)),))
        second.answer(("table", "zoo", "z"))
        self.assertSame(second.read_book(), BOOK)
        self.assertSame(third.read_book(), BOOK)
        self.assertSame((first.rows_read, second.rows_read, third.rows_read), (0, 2, 0))
        self.assertSame((second.drain(), third.drain()), ([], []))
        self.assertEqual(len(first.drain()) > 0, True)


class TestApply(ShelfCase):
    def test_random_deltas(self):
        draw = random.Random(1)
        for order in ORDERS:
            book = empty_book(drawn.SCHEMA)
            shelf = Shelf(drawn.SCHEMA, book, order=order)
            then = shelf.pages
            for _ in range(40):
                later = drawn.book(draw, 20)
                delta = difference(drawn.SCHEMA, book, later)
                self.assertIsNone(shelf.apply(delta))
                book = later
                self.check(shelf, drawn.SCHEMA, book, order)
                if draw.random() < 0.5:
                    self.assertSame(shelf.drain(), changed_pages(then, shelf.pages))
                    self.assertSame(shelf.drain(), [])
                    then = shelf.pages

    def test_drain(self):
        shelf = Shelf(PLAIN, empty_book(PLAIN))
        first = shelf.pages[0][1]
        self.assertSame(first, ("leaf", ()))
        shelf.apply((("one", (1,), None, (1,)),))
        after = ("leaf", ((("one", 1), (1,)),))
        self.assertSame(shelf.drain(), [(0, first, after)])
        shelf.apply((("one", (1,), (1,), None),))
        shelf.apply((("one", (1,), None, (1,)),))
        self.assertSame(shelf.drain(), [])
        shelf.apply(())
        self.assertSame(shelf.drain(), [])
        shelf.apply(delta=(("one", (1,), (1,), None), ("one", (True,), None, (True,))))
        self.assertSame(shelf.drain(), [(0, after, ("leaf", ((("one", True), (True,)),)))])

    def test_broken_references(self):
        shelf = Shelf(SCHEMA, BOOK)
        delta = (("zoo", ("a",), ("a", None), None), ("zoo", ("b",), ("b", "Rome"), None))
        shelf.apply(delta)
        book = (("zoo", ()), *BOOK[1:])
        self.check(shelf, SCHEMA, book, 8)
        self.assertSame(shelf.answer(("table", "ants", "x")), list(BOOK[1][1]))
        self.assertSame(shelf.answer(("table", "zoo", "x")), [])
        shelf.apply(inverse(delta))
        self.check(shelf, SCHEMA, BOOK, 8)

    def test_errors(self):
        right = ("ants", (9,), None, (9, None, None, 5))
        cases = (
            (NoTable, {"table": "bees"}, (right, ("bees", (1,), None, (1,)), ("cows", (1,), None, (1,)))),
            (NoTable, {"table": "bees"}, (("ants", (1,), None, (1, None, None, 5)), ("bees", (1,), None, (1,)))),
            (Mismatch, {"table": "ants", "key": (1,)}, (("ants", (1,), None, (1, None, None, 5)), right)),
            (Mismatch, {"table": "ants", "key": (8,)}, (right, ("ants", (8,), (8, None, None, 5), None),
                                                        ("zoo", ("q",), ("q", None), None))),
            (Mismatch, {"table": "ants", "key": (1,)}, (("ants", (1,), (1, "a", None, 6), None),)),
            (Mismatch, {"table": "zoo", "key": ("a",)}, (right, ("zoo", ("a",), ("a", "x"), ("a", "y")))),
        )
        for error, attributes, delta in cases:
            shelf = Shelf(SCHEMA, BOOK, order=4)
            pages = shelf.pages
            self.assertFails(error, attributes, shelf.apply, delta)
            self.assertFails(error, attributes, shelf.apply, delta=delta)
            self.assertSame(shelf.pages, pages)
            self.assertSame(shelf.read_book(), BOOK)
            self.assertSame(shelf.drain(), [])
            shelf.apply((right,))
            self.assertSame(len(shelf.answer(("table", "ants", "t"))), 4)

    def test_true_is_not_one(self):
        shelf = Shelf(PLAIN, make_book(PLAIN, [("t", [(1, 0, 1)])]))
        self.assertFails(Mismatch, {"table": "t", "key": (1, 0)}, shelf.apply, (("t", (1, 0), (True, 0, 1), None),))
        self.assertFails(Mismatch, {"table": "t", "key": (True, 0)}, shelf.apply,
                         (("t", (True, 0), (1, 0, True), None),))
        shelf.apply((("t", (True, 0), None, (1, 0, True)), ("t", (1, 0), (1, 0, 1), (True, 0, 1))))
        self.assertSame(shelf.read_book(), (("t", ((1, 0, True), (True, 0, 1))), ("one", ())))


class TestAnswer(ShelfCase):
    def test_errors(self):
        shelf = Shelf(PLAIN, PLAIN_BOOK)
        shelf.answer(where(ONE, compare("=", "one.k", 1)))
        for error, attributes, tree in (
            (NoTable, {"table": "two"}, ("pair", T, where(("table", "two", "x"), compare("=", "nope", 1)))),
            (NoColumn, {"label": "k"}, where(ONE, compare("=", "k", 1))),
            (Repeated, {"label": "t.x"}, ("pair", T, T)),
            (Unlike, {"left": ("t.x", "t.l", "t.k"), "right": ("one.k",)}, ("union", T, ONE)),
        ):
            self.assertFails(error, attributes, shelf.answer, tree)
            self.assertFails(error, attributes, shelf.answer, tree=tree)
            self.assertSame(shelf.rows_read, 1)

    def test_drawn_trees(self):
        draw = random.Random(54)
        for tree, _ in drawn.trees(draw, 300):
            book = drawn.book(draw)
            shelf = Shelf(drawn.SCHEMA, book, order=draw.choice(ORDERS))
            wanted = answer(drawn.SCHEMA, book, tree)
            self.assertSame(wanted, drawn.plain_answer(book, tree))
            self.assertSame(shelf.answer(tree), wanted, tree)
            self.assertSame(shelf.rows_read, plain_rows_read(drawn.SCHEMA, book, tree, []), tree)
            self.assertSame(shelf.answer(tree=tree), wanted, tree)
            self.assertSame(shelf.drain(), [])

    def test_drawn_conditions_on_keys(self):
        draw = random.Random(19)
        shelf = Shelf(PLAIN, PLAIN_BOOK, order=4)
        for _ in range(400):
            tree = draw.choice((T, ONE))
            label = f"{tree[1]}.k"
            for _ in range(draw.randrange(1, 4)):
                conditions = []
                for _ in range(draw.randrange(1, 4)):
                    op, value = draw.choice(drawn.OPS), draw.choice(KEYS)
                    conditions.append(draw.choice((compare(op, label, value), backwards(op, value, label))))
                tree = where(tree, conditions[0] if len(conditions) == 1 else ("and", conditions[0], conditions[1]))
            self.assertSame(shelf.answer(tree), answer(PLAIN, PLAIN_BOOK, tree))
            self.assertSame(shelf.rows_read, plain_rows_read(PLAIN, PLAIN_BOOK, tree, []), tree)

    def test_answers_are_new(self):
        shelf = Shelf(PLAIN, PLAIN_BOOK)
        rows = shelf.answer(ONE)
        rows.clear()
        self.assertSame(shelf.answer(ONE), [(key,) for key in KEYS])


class TestRowsRead(ShelfCase):
    def read(self, tree, wanted):
        shelf = Shelf(PLAIN, PLAIN_BOOK, order=4)
        self.assertSame(shelf.answer(tree), answer(PLAIN, PLAIN_BOOK, tree))
        self.assertSame(shelf.rows_read, wanted, tree)
        self.assertSame(plain_rows_read(PLAIN, PLAIN_BOOK, tree, []), wanted)

    def test_bounds(self):
        self.read(ONE, 12)
        self.read(T, 14)
        self.read(where(ONE, compare(">=", "one.k", 0)), 8)
        self.read(where(ONE, compare(">", "one.k", 0)), 8)
        self.read(where(ONE, compare("<=", "one.k", 0)), 5)
        self.read(where(ONE, compare("<", "one.k", 0)), 5)
        self.read(where(ONE, ("and", compare(">", "one.k", 0), compare("<", "one.k", 10))), 4)
        self.read(where(ONE, compare("=", "one.k", 10)), 1)
        self.read(where(ONE, compare("=", "one.k", 11)), 0)
        self.read(where(ONE, compare("!=", "one.k", 10)), 12)
        self.read(where(ONE, ("and", compare("=", "one.k", 1), compare("=", "one.k", 2))), 0)
        self.read(where(ONE, ("and", compare(">", "one.k", 10), compare("<", "one.k", 2))), 0)
        self.read(where(ONE, backwards(">", 1, "one.k")), 6)
        self.read(where(ONE, backwards("<", 1, "one.k")), 7)
        self.read(where(ONE, ("true",)), 12)
        self.read(where(ONE, ("false",)), 12)

    def test_what_sets_no_bound(self):
        low = compare(">", "one.k", 5)
        for condition in (("or", low, low), ("not", ("not", low)), ("not", low), ("or", low, ("false",)),
                          ("compare", "=", ("column", "one.k"), ("column", "one.k")),
                          ("compare", "=", ("value", 1), ("value", 2))):
            self.read(where(ONE, condition), 12)
        self.read(where(ONE, ("and", ("or", low, low), compare("<", "one.k", True))), 3)

    def test_kinds(self):
        for key in KEYS:
            many = 2 if key in (True, 1) and key is not False and key != "1" else 1
            self.read(where(ONE, compare("=", "one.k", key)), 1)
            self.read(where(T, compare("=", "t.k", key)), many)
        self.read(where(ONE, ("and", compare(">=", "one.k", True), compare("<=", "one.k", 1))), 4)
        self.read(where(ONE, ("and", compare(">", "one.k", None), compare("<", "one.k", ""))), 9)
        self.read(where(ONE, compare(">", "one.k", "a")), 2)

    def test_the_first_column_of_the_key(self):
        self.read(where(T, compare("=", "t.k", True)), 2)
        self.read(where(T, compare("=", "t.l", "z")), 14)
        self.read(where(T, compare("=", "t.x", 3)), 14)
        self.read(where(T, ("and", compare("=", "t.l", "z"), compare(">=", "t.k", "a"))), 2)

    def test_where_nodes_above(self):
        low, high = compare(">", "one.k", 0), compare("<", "one.k", 10)
        self.read(where(ONE, low, high), 4)
        self.read(where(ONE, high, ("true",), low), 4)
        own = ("read", ONE, (("one.k", "one.k"),))
        self.read(where(own, low), 12)
        self.read(where(("read", where(ONE, high), (("one.k", "one.k"),)), low), 8)
        self.read(where(("top", ONE, (), 100), low), 12)
        self.read(where(("union", ONE, ONE), low), 24)
        self.read(where(("minus", where(ONE, low), ONE), high), 20)
        self.read(("group", where(ONE, low, high), (), (("count", None, "n"),)), 4)

    def test_several_tables(self):
        pair = ("pair", T, ONE)
        self.read(pair, 26)
        self.read(where(pair, compare("=", "one.k", 1)), 26)
        self.read(("pair", where(T, compare("=", "t.k", 1)), where(ONE, compare("<=", "one.k", True))), 5)
        two = ("pair", where(ONE, compare("=", "one.k", 1)), where(("table", "one", "b"), compare(">", "b.k", 10)))
        self.read(two, 6)
        self.read(where(ONE, compare("=", "one.k", 1)), 1)
        self.read(("empty", ("x",)), 0)
        self.read(("union", ONE, ("empty", ("one.k",))), 12)

    def test_what_leaves_it(self):
        shelf = Shelf(PLAIN, PLAIN_BOOK)
        self.assertSame(shelf.rows_read, 0)
        shelf.answer(where(ONE, compare(">", "one.k", 0)))
        self.assertSame(shelf.rows_read, 8)
        shelf.read_book()
        shelf.apply((("one", (77,), None, (77,)),))
        shelf.drain()
        self.assertIsInstance(shelf.pages, tuple)
        self.assertFails(NoTable, {"table": "q"}, shelf.answer, ("table", "q", "q"))
        self.assertFails(Mismatch, {"table": "one", "key": (77,)}, shelf.apply, (("one", (77,), None, (77,)),))
        self.assertSame(shelf.rows_read, 8)
        shelf.answer(("empty", ("x",)))
        self.assertSame(shelf.rows_read, 0)


def changed_pages(then, now):
    """What has changed between two tuples of pages, as triples."""
    then, now = dict(then), dict(now)
    numbers = [one for one in sorted({**then, **now}) if repr(then.get(one)) != repr(now.get(one))]
    return [(one, then.get(one), now.get(one)) for one in numbers]


def plain_rows_read(schema, book, tree, above):
    """The rows that meet, in their weak form, all comparisons of the key's first column with a value."""
    if tree[0] == "table":
        _, columns, key, _, _ = [definition for definition in schema if definition[0] == tree[1]][0]
        at = [column for column, _ in columns].index(key[0])
        limits = [one for condition in above for one in weak_limits(condition, f"{tree[2]}.{key[0]}")]
        return len([row for row in dict(book)[tree[1]] if all([limit(drawn.key(row[at])) for limit in limits])])
    parts = {"empty": (), "pair": tree[1:3], "union": tree[1:3], "minus": tree[1:3]}.get(tree[0], tree[1:2])
    more = [*above, tree[2]] if tree[0] == "where" else []
    return sum([plain_rows_read(schema, book, part, more) for part in parts])


def weak_limits(condition, label):
    if condition[0] == "and":
        return weak_limits(condition[1], label) + weak_limits(condition[2], label)
    if condition[0] != "compare":
        return []
    _, op, left, right = condition
    if right == ("column", label) and left[0] == "value":
        op, left, right = {"<": ">", "<=": ">=", ">": "<", ">=": "<="}.get(op, op), right, left
    if left != ("column", label) or right[0] != "value" or op == "!=":
        return []
    worth = drawn.key(right[1])
    if op == "=":
        return [lambda value: value == worth]
    return [(lambda value: value <= worth) if op[0] == "<" else (lambda value: value >= worth)]


if __name__ == "__main__":
    unittest.main()
