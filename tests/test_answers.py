"""Points 29, 30, 32, 40 and 41: the answers of trees, and of each node by itself."""

import copy
import random
import unittest

from storedesk.answers import answer, answer_node, group_rows, shown, top_rows
from storedesk.books import make_book
from storedesk.errors import NoColumn, NoTable, Repeated, Unlike
from tests import drawn
from tests.support import StoreCase

SCHEMA = (
    ("t", (("id", "number"), ("x", "any")), ("id",), (), ()),
    ("u", (("y", "any"),), ("y",), (), ()),
    ("z", (("p", "any"), ("q", "any")), ("q", "p"), (), ()),
    ("no_rows", (("n", "number"),), ("n",), (), ()),
)
BOOK = make_book(SCHEMA, [
    ("t", [(3, True), (1, True), (2, 1), (4, "b")]),
    ("u", [(1,), (True,), ("a",), (None,)]),
    ("z", [(1, 2), (2, 1), (0, 2)]),
])
T = ("table", "t", "t")
U = ("table", "u", "u")
Z = ("table", "z", "z")
NONE = ("table", "no_rows", "e")
EMPTY = ("empty", ("a", "b"))
COUNT = (("count", None, "n"),)
MIXED = [("a",), (None,), (0,), (True,), ("",), (1,), (False,), (-3,), (1,)]


def where(part, label, op, content):
    return ("where", part, ("compare", op, ("column", label), ("value", content)))


class AnswerCase(StoreCase):
    def answers(self, tree, *rows):
        """The rows are given in the order in which they are shown."""
        ascending = drawn.in_order(rows)
        self.assertCall(answer, {"schema": SCHEMA, "book": BOOK, "tree": tree}, ascending)
        self.assertCall(shown, {"schema": SCHEMA, "book": BOOK, "tree": tree}, list(rows))

    def shows(self, tree, *rows):
        """The tree is no top node, so both answers ascend."""
        self.assertSame(list(rows), drawn.in_order(rows))
        self.answers(tree, *rows)


class TestNodes(AnswerCase):
    def test_tables(self):
        self.shows(T, (1, True), (2, 1), (3, True), (4, "b"))
        self.shows(U, (None,), (True,), (1,), ("a",))
        self.shows(NONE)

    def test_a_table_is_not_in_the_order_of_its_keys(self):
        self.assertSame(dict(BOOK)["z"], ((2, 1), (0, 2), (1, 2)))
        self.shows(Z, (0, 2), (1, 2), (2, 1))

    def test_empty(self):
        self.shows(EMPTY)
        self.shows(("where", EMPTY, ("true",)))

    def test_pairs(self):
        self.shows(("pair", where(T, "t.id", "<", 3), U), *[row + other for row in ((1, True), (2, 1))
                                                          for other in ((None,), (True,), (1,), ("a",))])
        self.shows(("pair", NONE, T))
        self.shows(("pair", T, NONE))
        twice = ("union", U, U)
        self.shows(("pair", twice, ("table", "u", "v")), *[row + other for row in ((None,), (True,), (1,), ("a",))
                                                          for other in ((None,), (True,), (1,), ("a",
                                                                                                 )) for _ in range(2)])

    def test_where(self):
        self.shows(where(T, "t.x", "=", 1), (2, 1))
        self.shows(where(T, "t.x", "=", True), (1, True), (3, True))
        self.shows(where(T, "t.x", "<", "a"), (1, True), (2, 1), (3, True))
        self.shows(("where", T, ("false",)))
        self.shows(("where", T, ("true",)), (1, True), (2, 1), (3, True), (4, "b"))
        self.shows(("where", ("pair", T, U), ("compare", "=", ("column", "t.x"), ("column", "u.y"))),
                   (1, True, True), (2, 1, 1), (3, True, True))

    def test_read(self):
        self.shows(("read", T, (("t.x", "a"),)), (True,), (True,), (1,), ("b",))
        self.shows(("read", T, (("t.x", "a"), ("t.id", "t.x"), ("t.x", "c"))),
                   (True, 1, True), (True, 3, True), (1, 2, 1), ("b", 4, "b"))
        self.shows(("read", NONE, (("e.n", "e.n"),)))

    def test_union(self):
        self.shows(("union", U, U), (None,), (None,), (True,), (True,), (1,), (1,), ("a",), ("a",))
        self.shows(("union", U, ("read", where(T, "t.x", "=", 1), (("t.x", "u.y"),))), (None,), (True,), (1,), (1,),
                   ("a",))
        self.shows(("union", U, ("empty", ("u.y",))), (None,), (True,), (1,), ("a",))

    def test_minus(self):
        xs = ("read", T, (("t.x", "u.y"),))
        self.shows(("minus", xs, U), (True,), ("b",))
        self.shows(("minus", U, xs), (None,), ("a",))
        self.shows(("minus", ("union", xs, xs), U), (True,), (True,), (True,), (1,), ("b",), ("b",))
        self.shows(("minus", xs, ("union", U, U)), ("b",))
        self.shows(("minus", xs, xs))
        self.shows(("minus", ("union", U, U), ("minus", U, xs)), (None,), (True,), (True,), (1,), (1,), ("a",))

    def test_group(self):
        self.shows(("group", T, ("t.x",), COUNT), (True, 2), (1, 1), ("b", 1))
        self.shows(("group", T, (), COUNT), (4,))
        self.shows(("group", NONE, (), (("sum", "e.n", "s"), ("least", "e.n", "l"), ("most", "e.n", "m"), *COUNT)),
                   (0, None, None, 0))
        self.shows(("group", NONE, ("e.n",), COUNT))
        self.shows(("group", EMPTY, (), COUNT), (0,))
        self.shows(("group", EMPTY, ("b",), COUNT))

    def test_top(self):
        self.answers(("top", T, (("t.x", "down"),), 2), (4, "b"), (2, 1))
        self.answers(("top", T, (("t.x", "down"),), 9), (4, "b"), (2, 1), (1, True), (3, True))
        self.answers(("top", T, (("t.x", "up"), ("t.id", "down")), 3), (3, True), (1, True), (2, 1))
        self.answers(("top", T, (), 3), (1, True), (2, 1), (3, True))
        self.answers(("top", T, (("t.id", "down"),), 0))
        self.answers(("top", Z, (("z.q", "down"),), 1000000), (0, 2), (1, 2), (2, 1))
        self.answers(("top", ("top", T, (("t.id", "down"),), 2), (("t.id", "up"),), 1), (3, True))

    def test_a_top_node_that_is_not_the_tree_itself(self):
        top = ("top", T, (("t.x", "down"),), 2)
        self.shows(("where", top, ("true",)), (2, 1), (4, "b"))
        self.shows(("read", top, (("t.x", "x"),)), (1,), ("b",))
        self.shows(("union", top, top), (2, 1), (2, 1), (4, "b"), (4, "b"))
        self.shows(("pair", top, where(U, "u.y", "=", 1)), (2, 1, 1), (4, "b", 1))

    def test_without_tables(self):
        self.assertCall(answer, {"schema": (), "book": (), "tree": EMPTY}, [])
        self.assertCall(shown, {"schema": (), "book": (), "tree": ("top", EMPTY, (("a", "down"),), 2)}, [])


class TestExamples(AnswerCase):
    def test_interface(self):
        schema = (("t", (("id", "number"), ("x", "any")), ("id",), (), ()),)
        book = (("t", ((1, True), (2, 1), (3, True))),)
        self.assertSame(answer(schema, book, ("group", T, ("t.x",), COUNT)), [(True, 2), (1, 1)])
        self.assertSame(shown(schema, book, ("top", T, (("t.x", "down"),), 2)), [(2, 1), (1, True)])


class TestGroupRows(AnswerCase):
    def groups(self, rows, by, aggregates, *wanted, columns=("a", "b")):
        """In whatever order the rows stand, in a list or in a tuple."""
        draw = random.Random(30)
        for shuffled in (list(rows), list(rows)[::-1], draw.sample(list(rows), len(rows))):
            arguments = {"rows": shuffled, "columns": columns, "by": by, "aggregates": aggregates}
            self.assertCall(group_rows, arguments, list(wanted))
            self.assertSame(group_rows(tuple(shuffled), columns, by, aggregates), list(wanted))

    def test_groups(self):
        rows = [(1, "x"), (True, "x"), (1, "y"), (None, 5), (1, "x")]
        self.groups(rows, ("a",), COUNT, (None, 1), (True, 1), (1, 3))
        self.groups(rows, ("b", "a"), COUNT, (5, None, 1), ("x", True, 1), ("x", 1, 2), ("y", 1, 1))
        self.groups(rows, ("a",), (), (None,), (True,), (1,))
        self.groups(rows, ("b",), (("most", "a", "m"), ("least", "a", "l")), (5, None, None), ("x", 1, True), ("y", 1,
                                                                                                               1))
        self.groups(rows, (), COUNT, (5,))
        self.groups(rows, (), (("count", None, "n"), ("count", None, "m")), (5, 5))

    def test_true_beside_one(self):
        self.groups([(True,), (1,), (False,), (0,), (1,), ("1",), ("",), (None,)], ("a",), COUNT,
                    (None, 1), (False, 1), (True, 1), (0, 1), (1, 2), ("", 1), ("1", 1), columns=("a",))
        self.groups([(True, 1), (1, True), (True, True)], ("a", "b"), COUNT, (True, True, 1), (True, 1, 1), (1, True,
                                                                                                             1))

    def test_sums(self):
        sums = (("sum", "a", "s"),)
        self.groups([], (), sums, (0,), columns=("a",))
        self.groups([(True,), ("5",), (None,), (False,)], (), sums, (0,), columns=("a",))
        self.groups([(True,), (5,), ("7",), (-8,), (5,)], (), sums, (2,), columns=("a",))
        self.groups([(10 ** 29,), (10 ** 29,), (-1,)], (), sums, (2 * 10 ** 29 - 1,), columns=("a",))
        self.groups([("x", 1), ("y", "1"), ("x", 2)], ("a",), (("sum", "b", "s"),), ("x", 3), ("y", 0))

    def test_least_and_most(self):
        both = (("least", "a", "l"), ("most", "a", "m"))
        self.groups([], (), both, (None, None), columns=("a",))
        self.groups(MIXED, (), both, (None, "a"), columns=("a",))
        self.groups(MIXED[2:4] + MIXED[5:], (), both, (False, 1), columns=("a",))
        self.groups([(1,), (True,)], (), both, (True, 1), columns=("a",))
        self.groups([(0,), (True,)], (), both, (True, 0), columns=("a",))
        self.groups([("b",), ("",), ("B",)], (), both, ("", "b"), columns=("a",))
        self.groups([(5,)], (), both, (5, 5), columns=("a",))

    def test_no_rows(self):
        self.groups([], ("a",), COUNT)
        self.groups([], ("a", "b"), ())
        self.groups([], (), COUNT, (0,))

    def test_many_columns(self):
        columns = tuple([f"c{at}" for at in range(12)])
        rows = [tuple(range(12)), tuple(range(1, 13))]
        self.groups(rows, ("c11", "c0"), (("sum", "c7", "s"),), (11, 0, 7), (12, 1, 8), columns=columns)


class TestTopRows(AnswerCase):
    def tops(self, rows, keys, n, *wanted, columns=("a", "b")):
        draw = random.Random(29)
        for shuffled in (list(rows), list(rows)[::-1], draw.sample(list(rows), len(rows))):
            arguments = {"rows": shuffled, "columns": columns, "keys": keys, "n": n}
            self.assertCall(top_rows, arguments, list(wanted))
            self.assertSame(top_rows(tuple(shuffled), columns, keys, n), list(wanted))

    def test_keys(self):
        rows = [(1, "x"), (2, "x"), (1, "y"), (3, "a")]
        self.tops(rows, (("a", "up"),), 4, (1, "x"), (1, "y"), (2, "x"), (3, "a"))
        self.tops(rows, (("a", "down"),), 4, (3, "a"), (2, "x"), (1, "x"), (1, "y"))
        self.tops(rows, (("b", "down"), ("a", "down")), 4, (1, "y"), (2, "x"), (1, "x"), (3, "a"))
        self.tops(rows, (("b", "down"), ("a", "up")), 4, (1, "y"), (1, "x"), (2, "x"), (3, "a"))
        self.tops(rows, (("b", "up"), ("a", "down")), 4, (3, "a"), (2, "x"), (1, "x"), (1, "y"))
        self.tops(rows, (("a", "up"), ("a", "down"), ("b", "down")), 2, (1, "y"), (1, "x"))

    def test_equal_in_all_keys(self):
        rows = [(1, 5), (True, 5), ("a", 5), (None, 5), (0, 6)]
        self.tops(rows, (("b", "down"),), 5, (0, 6), (None, 5), (True, 5), (1, 5), ("a", 5))
        self.tops(rows, (("b", "up"),), 2, (None, 5), (True, 5))
        self.tops([(2, 0), (1, 0), (2, 0)], (("b", "down"),), 3, (1, 0), (2, 0), (2, 0))
        self.tops([(2, 1), (1, True), (0, 1)], (("b", "up"),), 3, (1, True), (0, 1), (2, 1))

    def test_numbers_of_rows(self):
        rows = [(2, 0), (1, 0), (2, 0)]
        self.tops(rows, (), 0)
        self.tops(rows, (), 1, (1, 0))
        self.tops(rows, (), 2, (1, 0), (2, 0))
        self.tops(rows, (("a", "down"),), 2, (2, 0), (2, 0))
        for n in (3, 4, 1000000):
            self.tops(rows, (), n, (1, 0), (2, 0), (2, 0))
            self.tops([], (("b", "down"),), n)

    def test_mixed_kinds(self):
        ascending = drawn.in_order(MIXED)
        self.tops(MIXED, (("a", "up"),), 9, *ascending, columns=("a",))
        self.tops(MIXED, (("a", "down"),), 9, *ascending[::-1], columns=("a",))


class TestAnswerNode(AnswerCase):
    def node(self, tree, parts, *wanted):
        self.assertCall(answer_node, {"schema": SCHEMA, "tree": tree, "parts": parts}, list(wanted))

    def test_each_node(self):
        """The answers of the parts are what is given, whatever the parts' own answers are."""
        rows = [(1, "a"), (1, "a"), (2, None), (3, True)]
        self.node(EMPTY, [])
        self.node(("pair", T, U), [rows[1:3], [(5,), ("x",)]], (1, "a", 5), (1, "a", "x"), (2, None, 5), (2, None, "x"))
        self.node(("pair", T, U), [rows[:2], [(5,), ("x",)]], (1, "a", 5), (1, "a", 5), (1, "a", "x"), (1, "a", "x"))
        self.node(("pair", T, U), [rows, []])
        self.node(where(T, "t.x", "!=", None), [rows], *rows[:2], rows[3])
        self.node(("read", T, (("t.x", "x"),)), [rows], (None,), (True,), ("a",), ("a",))
        self.node(("group", T, ("t.x",), (("sum", "t.id", "s"),)), [rows], (None, 2), (True, 3), ("a", 2))
        self.node(("group", T, (), COUNT), [[]], (0,))
        self.node(("union", T, T), [rows, rows[1:]], *[rows[0]] * 3, rows[2], rows[2], rows[3], rows[3])
        self.node(("minus", T, T), [rows, rows[1:3]], rows[0], rows[3])
        self.node(("minus", T, T), [rows[1:2], rows])
        self.node(("top", T, (("t.id", "down"),), 2), [rows], rows[2], rows[3])
        self.node(("top", T, (("t.x", "down"), ("t.id", "up")), 3), [rows], rows[0], rows[1], rows[3])

    def test_deeper_parts(self):
        """Only the columns of a part count, not what stands beneath it."""
        part = ("group", where(("pair", T, U), "u.y", "=", 7), ("t.id",), (("most", "u.y", "m"),))
        self.node(where(part, "m", ">", 1), [[(1, 1), (2, 2), (3, "x")]], (2, 2), (3, "x"))
        self.node(("pair", part, NONE), [[(1, 1)], [(2,), (3,)]], (1, 1, 2), (1, 1, 3))
        self.node(("top", part, (("m", "down"),), 1), [[(1, "z"), (2, "y")]], (1, "z"))

    def test_wide_rows(self):
        wide = tuple(range(12))
        tables = tuple([("table", "z", f"z{at}") for at in range(4)])
        tree = ("pair", ("pair", tables[0], tables[1]), ("pair", tables[2], tables[3]))
        self.node(("pair", tree, ("table", "z", "w")), [[wide[:8]], [wide[8:10]]], wide[:10])
        double = ("pair", ("read", tree, tuple([("z0.p", f"c{at}") for at in range(12)])), T)
        self.node(double, [[wide, wide], [(1, True)]], (*wide, 1, True), (*wide, 1, True))
        self.node(("where", double, ("compare", "=", ("column", "t.x"), ("value", True))),
                  [[(*wide, 1, True), (*wide, 1, 1)]], (*wide, 1, True))


class TestErrors(AnswerCase):
    def wrong(self, error, attributes, tree):
        before = copy.deepcopy((SCHEMA, BOOK, tree))
        for function in (answer, shown):
            for one in (tree, ("top", tree, (), 2), ("top", ("union", tree, T), (), 0), ("where", tree, ("false",))):
                self.assertFails(error, attributes, function, SCHEMA, BOOK, one)
                self.assertFails(error, attributes, function, tree=one, book=BOOK, schema=SCHEMA)
        self.assertSame((SCHEMA, BOOK, tree), before)

    def test_faults(self):
        self.wrong(NoTable, {"table": "cows"}, ("table", "cows", "t"))
        self.wrong(NoTable, {"table": "cows"}, where(("pair", T, ("table", "cows", "t")), "none_such", "=", 1))
        self.wrong(NoColumn, {"label": "x"}, where(T, "x", "=", 1))
        self.wrong(NoColumn, {"label": "t.y"}, ("read", T, (("t.x", "t.y"), ("t.y", "t.x"))))
        self.wrong(NoColumn, {"label": "e"}, ("group", ("pair", T, T), ("t.x",), (("sum", "e", "s"),)))
        self.wrong(NoColumn, {"label": "id"}, ("top", T, (("id", "up"),), 1))
        self.wrong(Repeated, {"label": "t.id"}, ("pair", T, T))
        self.wrong(Repeated, {"label": "n"}, ("group", ("union", T, U), (), (*COUNT, *COUNT)))
        self.wrong(Unlike, {"left": ("t.id", "t.x"), "right": ("a", "b")}, ("union", T, EMPTY))
        self.wrong(Unlike, {"left": ("u.y",), "right": ("e.n",)}, ("minus", U, NONE))

    def test_keys_of_a_top_that_is_the_tree_itself(self):
        self.assertFails(NoColumn, {"label": "x"}, shown, SCHEMA, BOOK, ("top", T, (("x", "up"),), 1))
        self.assertFails(NoColumn, {"label": "x"}, shown, SCHEMA, BOOK, ("top", NONE, (("x", "down"),), 0))


class TestDrawn(StoreCase):
    def test_answers(self):
        draw = random.Random(41)
        rows = 0
        for tree, _ in drawn.trees(draw, 500, rows_each=4):
            for _ in range(2):
                book = drawn.book(draw)
                found = answer(drawn.SCHEMA, book, tree)
                rows += len(found)
                self.assertSame(found, drawn.plain_answer(book, tree), tree)
                self.assertSame(shown(drawn.SCHEMA, book, tree), drawn.plain_shown(book, tree), tree)
        self.assertGreater(rows, 1000)


if __name__ == "__main__":
    unittest.main()
