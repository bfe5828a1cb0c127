"""Points 29, 31 and 32: trees, their places, their columns and their faults."""

import itertools
import random
import unittest

from storedesk.errors import NoColumn, NoPlace, NoTable, Repeated, Unlike
from storedesk.trees import children, columns_of, places, places_up, replaced, subtree, tables_in
from tests.support import StoreCase

SCHEMA = (
    ("goods", (("id", "number"), ("name", "text"), ("price", "any")), ("id",), (), ()),
    ("a", (("x", "any"),), ("x",), (), ()),
    ("sales", (("good", "number"), ("at", "text")), ("at",), (), ()),
)
GOODS = ("table", "goods", "g")
SALES = ("table", "sales", "s")
LETTER = ("table", "a", "l")
OTHER_GOODS = ("table", "goods", "h")
EMPTY = ("empty", ("x", "y.z"))
PRICES = ("empty", ("g.price",))
FISH = ("table", "fish", "f")
COWS = ("table", "cows", "c")


def pair(left, right):
    return ("pair", left, right)


def where(part, *labels):
    condition = ("true",)
    for label in labels:
        condition = ("and", condition, ("compare", "=", ("column", label), ("value", label)))
    return ("where", part, condition)


def read(part, *items):
    return ("read", part, items)


def group(part, by=(), aggregates=()):
    return ("group", part, by, aggregates)


def top(part, *labels):
    return ("top", part, tuple([(label, "down") for label in labels]), 3)


LARGE = (
    "union",
    top(where(pair(GOODS, ("minus", SALES, read(SALES, ("s.at", "s.good"), ("s.good", "s.at")))), "g.id"), "g.id"),
    pair(
        read(LETTER, ("l.x", "g.id"), ("l.x", "g.name")),
        group(PRICES, ("g.price",), (("count", None, "s.good"), ("most", "g.price", "s.at"))),
    ),
)
LARGE_PLACES = [
    (), (0,), (0, 0), (0, 0, 0), (0, 0, 0, 0), (0, 0, 0, 1), (0, 0, 0, 1, 0), (0, 0, 0, 1, 1), (0, 0, 0, 1, 1, 0),
    (1,), (1, 0), (1, 0, 0), (1, 1), (1, 1, 0),
]
LARGE_PLACES_UP = [
    (0, 0, 0, 0), (0, 0, 0, 1, 0), (0, 0, 0, 1, 1, 0), (0, 0, 0, 1, 1), (0, 0, 0, 1), (0, 0, 0), (0, 0), (0,),
    (1, 0, 0), (1, 0), (1, 1, 0), (1, 1), (1,), (),
]


class TestParts(StoreCase):
    def test_children(self):
        for tree, wanted in (
            (GOODS, []), (EMPTY, []), (("empty", ("a",)), []), (pair(GOODS, SALES), [GOODS, SALES]),
            (where(GOODS), [GOODS]),
            (read(EMPTY, ("x", "x")), [EMPTY]), (group(GOODS, ("g.id",), ()), [GOODS]),
            (group(SALES, (), (("count", None, "n"),)), [SALES]),
            (("union", SALES, top(SALES)), [SALES, top(SALES)]),
            (("minus", where(EMPTY), EMPTY), [where(EMPTY), EMPTY]), (top(GOODS), [GOODS]),
            (pair(GOODS, OTHER_GOODS), [GOODS, OTHER_GOODS]), (("union", GOODS, GOODS), [GOODS, GOODS]),
            (LARGE, [LARGE[1], LARGE[2]]), (top(where(GOODS), "g.id"), [where(GOODS)]),
        ):
            self.assertCall(children, {"tree": tree}, wanted)


class TestPlaces(StoreCase):
    def test_one_node(self):
        for tree in (GOODS, EMPTY):
            self.assertCall(places, {"tree": tree}, [()])
            self.assertCall(places_up, {"tree": tree}, [()])
            self.assertCall(subtree, {"tree": tree, "place": ()}, tree)
            self.assertCall(replaced, {"tree": tree, "place": (), "part": LARGE}, LARGE)

    def test_orders(self):
        self.assertCall(places, {"tree": LARGE}, LARGE_PLACES)
        self.assertCall(places_up, {"tree": LARGE}, LARGE_PLACES_UP)
        for node in (where(GOODS), read(GOODS, ("g.id", "x")), group(GOODS, ("g.id",)), top(GOODS)):
            self.assertCall(places, {"tree": node}, [(), (0,)])
            self.assertCall(places_up, {"tree": node}, [(0,), ()])
        for word, other in (("pair", OTHER_GOODS), ("union", GOODS), ("minus", GOODS)):
            self.assertCall(places, {"tree": (word, where(GOODS), other)}, [(), (0,), (0, 0), (1,)])
            self.assertCall(places_up, {"tree": (word, other, where(GOODS))}, [(0,), (1, 0), (1,), ()])

    def test_subtree(self):
        for place, wanted in (
            ((), LARGE), ((0,), LARGE[1]), ((1,), LARGE[2]), ((0, 0), LARGE[1][1]),
            ((0, 0, 0), pair(GOODS, LARGE[1][1][1][2])),
            ((0, 0, 0, 0), GOODS), ((0, 0, 0, 1, 0), SALES), ((0, 0, 0, 1, 1, 0), SALES), ((1, 0), LARGE[2][1]),
            ((1, 0, 0), LETTER), ((1, 1), LARGE[2][2]), ((1, 1, 0), PRICES),
        ):
            self.assertCall(subtree, {"tree": LARGE, "place": place}, wanted)

    def test_replaced(self):
        for place in LARGE_PLACES:
            part = top(("empty", columns_of(SCHEMA, subtree(LARGE, place))))
            turned = replaced(LARGE, place, part)
            self.assertCall(replaced, {"tree": LARGE, "place": place, "part": part}, turned)
            self.assertSame(subtree(turned, place), part)
            self.assertSame(replaced(turned, place, subtree(LARGE, place)), LARGE)
            self.assertSame(replaced(LARGE, place, subtree(LARGE, place)), LARGE)
            for other in LARGE_PLACES:
                if other[:len(place)] != place and place[:len(other)] != other:
                    self.assertSame(subtree(turned, other), subtree(LARGE, other))
        self.assertSame(replaced(pair(GOODS, SALES), (0,), EMPTY), pair(EMPTY, SALES))
        self.assertSame(replaced(pair(GOODS, SALES), (1,), EMPTY), pair(GOODS, EMPTY))
        self.assertSame(replaced(top(GOODS, "g.id"), (0,), where(GOODS)), top(where(GOODS), "g.id"))
        count = (("count", None, "n"),)
        self.assertSame(replaced(group(GOODS, ("g.id",), count), (0,), top(GOODS)), group(top(GOODS), ("g.id",), count))
        self.assertSame(replaced(("minus", where(GOODS, "g.id"), GOODS), (0, 0), top(GOODS)),
                        ("minus", where(top(GOODS), "g.id"), GOODS))
        self.assertSame(replaced(LARGE, (1, 1, 0), where(PRICES)),
                        (*LARGE[:2], pair(LARGE[2][1], ("group", where(PRICES), *LARGE[2][2][2:]))))

    def test_no_place(self):
        for tree, place in (
            (GOODS, (0,)), (GOODS, (1,)), (EMPTY, (0,)), (EMPTY, (0, 0)), (where(GOODS), (1,)), (where(GOODS), (2,)),
            (read(GOODS, ("g.id", "x")), (1,)),
            (where(GOODS), (0, 0)), (top(GOODS), (1, 0)), (group(GOODS, ("g.id",)), (1,)), (top(GOODS), (3,)),
            (pair(GOODS, SALES), (2,)),
            (pair(GOODS, SALES), (1, 0)), (("union", SALES, SALES), (2, 0)), (("minus", GOODS, GOODS), (7, 7, 7)),
            (LARGE, (0, 1)),
            (LARGE, (0, 0, 0, 1, 1, 1)), (LARGE, (0, 0, 0, 1, 1, 0, 0)), (LARGE, (1, 2)), (LARGE, (1, 1, 0, 0, 0)),
            (LARGE, (1000000,)),
        ):
            self.assertFails(NoPlace, {"place": place}, subtree, tree, place)
            self.assertFails(NoPlace, {"place": place}, subtree, place=place, tree=tree)
            self.assertFails(NoPlace, {"place": place}, replaced, tree, place, EMPTY)
            self.assertFails(NoPlace, {"place": place}, replaced, place=place, part=EMPTY, tree=tree)

    def test_ten_deep(self):
        tree = GOODS
        for _ in range(5):
            tree = top(where(tree))
        beneath = tree
        for size in range(10):
            self.assertSame(subtree(tree, (0,) * size), beneath)
            beneath = beneath[1]
        self.assertSame(subtree(tree, (0,) * 10), GOODS)
        self.assertSame(places(tree), [(0,) * size for size in range(11)])
        self.assertSame(places_up(tree), [(0,) * size for size in range(10, -1, -1)])
        self.assertSame(columns_of(SCHEMA, tree), ("g.id", "g.name", "g.price"))
        self.assertSame(columns_of(SCHEMA, replaced(tree, (0,) * 10, LETTER)), ("l.x",))


class TestTablesIn(StoreCase):
    def test_tables(self):
        for tree, wanted in (
            (GOODS, ["goods"]), (EMPTY, []), (pair(SALES, GOODS), ["goods", "sales"]),
            (pair(GOODS, OTHER_GOODS), ["goods"]),
            (LARGE, ["a", "goods", "sales"]), (pair(FISH, where(COWS)), ["cows", "fish"]),
            (read(EMPTY, ("x", "a")), []),
            (("table", "a", "b"), ["a"]),
            (pair(pair(SALES, LETTER), pair(("table", "b", "a"), ("table", "sales", "t"))), ["a", "b", "sales"]),
        ):
            self.assertCall(tables_in, {"tree": tree}, wanted)


class TestColumns(StoreCase):
    def right(self, tree, *columns):
        self.assertCall(columns_of, {"schema": SCHEMA, "tree": tree}, columns)

    def test_each_node(self):
        self.right(GOODS, "g.id", "g.name", "g.price")
        self.right(("table", "goods", "goods"), "goods.id", "goods.name", "goods.price")
        self.right(("table", "a", "x"), "x.x")
        self.right(EMPTY, "x", "y.z")
        self.right(pair(GOODS, SALES), "g.id", "g.name", "g.price", "s.good", "s.at")
        self.right(pair(SALES, GOODS), "s.good", "s.at", "g.id", "g.name", "g.price")
        self.right(pair(GOODS, OTHER_GOODS), "g.id", "g.name", "g.price", "h.id", "h.name", "h.price")
        self.right(where(GOODS, "g.price"), "g.id", "g.name", "g.price")
        self.right(read(GOODS, ("g.price", "p"), ("g.id", "g.id"), ("g.price", "a.b")), "p", "g.id", "a.b")
        self.right(read(GOODS, ("g.id", "g.name"), ("g.name", "g.id")), "g.name", "g.id")
        self.right(group(GOODS, ("g.name", "g.id")), "g.name", "g.id")
        self.right(group(GOODS, (), (("count", None, "n"), ("sum", "g.id", "s"))), "n", "s")
        self.right(group(GOODS, ("g.name",), (("least", "g.id", "g.id"), ("most", "g.id", "o.x"))), "g.name", "g.id",
                   "o.x")
        self.right(("union", EMPTY, ("empty", ("x", "y.z"))), "x", "y.z")
        self.right(("minus", SALES, where(SALES)), "s.good", "s.at")
        self.right(("union", read(GOODS, ("g.id", "s.good"), ("g.name", "s.at")), SALES), "s.good", "s.at")
        self.right(top(GOODS, "g.price", "g.id"), "g.id", "g.name", "g.price")
        self.right(top(LETTER), "l.x")

    def test_outs_need_not_be_columns(self):
        self.right(read(EMPTY, ("x", "none_such")), "none_such")
        self.right(group(EMPTY, (), (("count", None, "x"), ("most", "x", "none_such"))), "x", "none_such")

    def test_without_tables(self):
        self.assertCall(columns_of, {"schema": (), "tree": EMPTY}, ("x", "y.z"))
        self.assertFails(NoTable, {"table": "goods"}, columns_of, (), GOODS)


class TestFaults(StoreCase):
    def wrong(self, error, attributes, tree):
        self.assertFails(error, attributes, columns_of, SCHEMA, tree)
        self.assertFails(error, attributes, columns_of, tree=tree, schema=SCHEMA)
        # Beneath other nodes the fault is the same.
        self.assertFails(error, attributes, columns_of, SCHEMA, top(tree))
        self.assertFails(error, attributes, columns_of, SCHEMA, ("union", LETTER, tree))
        self.assertFails(error, attributes, columns_of, SCHEMA, group(tree, (), (("count", None, "n"),)))

    def test_no_table(self):
        self.wrong(NoTable, {"table": "fish"}, FISH)
        self.wrong(NoTable, {"table": "fish"}, pair(FISH, COWS))
        self.wrong(NoTable, {"table": "cows"}, pair(COWS, FISH))
        self.wrong(NoTable, {"table": "cows"}, pair(GOODS, where(pair(COWS, GOODS), "none_such")))
        self.wrong(NoTable, {"table": "fish"}, pair(pair(GOODS, where(top(FISH))), COWS))
        self.wrong(NoTable, {"table": "g"}, ("table", "g", "goods"))

    def no_column(self, label, tree):
        self.wrong(NoColumn, {"label": label}, tree)

    def test_no_column(self):
        for label in ("id", "g", "name", "goods.id", "s.good", "g.idd", "x"):
            self.no_column(label, where(GOODS, label))
            self.no_column(label, where(GOODS, "g.id", label, "y"))
            self.no_column(label, ("where", GOODS, ("not", ("compare", "<", ("value", 1), ("column", label)))))
            self.no_column(label, read(GOODS, (label, "a")))
            self.no_column(label, read(GOODS, ("g.id", label), (label, "g.id"), ("y", "z")))
            self.no_column(label, group(GOODS, (label,)))
            self.no_column(label, group(GOODS, ("g.id", label, "y"), (("sum", "y", "n"),)))
            self.no_column(label, group(GOODS, ("g.id",), (("count", None, label), ("least", label, "g.name"),
                                                           ("most", "y", "n"))))
            self.no_column(label, top(GOODS, label))
            self.no_column(label, top(GOODS, "g.name", label, "y"))

    def test_no_column_from_left_to_right(self):
        both = ("compare", "=", ("column", "u"), ("column", "v"))
        self.no_column("u", ("where", GOODS, both))
        self.no_column("w", ("where", GOODS, ("or", ("compare", "=", ("column", "w"), ("column", "g.id")), both)))
        self.no_column("v", ("where", GOODS, ("and", ("not", ("compare", ">", ("column", "v"), ("value", 1))), both)))

    def test_outs_and_the_other_part_are_no_columns(self):
        self.no_column("a", read(GOODS, ("g.id", "a"), ("a", "b")))
        self.no_column("n", group(GOODS, (), (("count", None, "n"), ("sum", "n", "m"))))
        self.no_column("g.id", top(read(GOODS, ("g.id", "a")), "g.id"))
        self.no_column("g.name", where(group(GOODS, ("g.id",), (("count", None, "n"),)), "g.id", "n", "g.name"))
        self.no_column("s.at", pair(where(GOODS, "s.at"), SALES))
        self.no_column("s.at", pair(SALES, where(GOODS, "s.at")))
        self.no_column("q", where(("union", EMPTY, ("empty", ("p", "q"))), "q"))

    def test_no_column_in_postorder(self):
        self.no_column("u", where(read(where(GOODS, "u"), ("v", "v")), "w"))
        self.no_column("v", top(read(where(GOODS, "g.id"), ("v", "a")), "w"))
        self.no_column("u", where(pair(top(GOODS, "u"), where(SALES, "v")), "w"))
        self.no_column("v", where(pair(top(GOODS, "g.id"), where(SALES, "v")), "w"))
        self.no_column("w", where(pair(top(GOODS, "g.id"), where(SALES, "s.at")), "w"))
        kinds = (lambda part, label: where(part, label), lambda part, label: read(part, (label, "g.id")),
                 lambda part, label: group(part, (label,)), lambda part, label: top(part, label))
        for low, high in itertools.product(kinds, repeat=2):
            self.no_column("u", high(low(GOODS, "u"), "v"))
            self.no_column("u", pair(low(GOODS, "u"), high(GOODS, "v")))
            self.no_column("v", high(low(GOODS, "g.id"), "v"))

    def repeated(self, label, tree):
        self.wrong(Repeated, {"label": label}, tree)

    def test_repeated(self):
        self.repeated("a", ("empty", ("a", "a")))
        self.repeated("b", ("empty", ("a", "b", "b", "a")))
        self.repeated("a", ("empty", ("a", "b", "a", "b")))
        self.repeated("g.id", pair(GOODS, GOODS))
        self.repeated("g.good", pair(("table", "sales", "g"), pair(LETTER, ("table", "sales", "g"))))
        self.repeated("y.z", pair(EMPTY, ("empty", ("a", "y.z", "x"))))
        self.repeated("a", read(GOODS, ("g.id", "a"), ("g.name", "b"), ("g.price", "a")))
        self.repeated("g.id", group(GOODS, ("g.id", "g.name", "g.id")))
        self.repeated("g.id", group(GOODS, ("g.id",), (("count", None, "g.id"),)))
        self.repeated("n", group(GOODS, ("g.id",), (("count", None, "n"), ("sum", "g.id", "m"),
                                                    ("least", "g.id", "n"))))

    def test_repeated_in_postorder(self):
        self.repeated("b", pair(("empty", ("b", "b")), ("empty", ("a", "a"))))
        self.repeated("c", where(pair(read(("empty", ("c", "c")), ("c", "d"), ("c", "d")), ("empty", ("a", "a")))))
        self.repeated("x", pair(pair(EMPTY, EMPTY), ("empty", ("a", "a"))))
        self.repeated("a", pair(EMPTY, pair(("empty", ("a", "a")), EMPTY)))

    def test_a_label_may_be_read_or_grouped_twice(self):
        self.assertSame(columns_of(SCHEMA, read(GOODS, ("g.id", "a"), ("g.id", "b"))), ("a", "b"))
        self.assertSame(columns_of(SCHEMA, top(GOODS, "g.id", "g.id")), ("g.id", "g.name", "g.price"))

    def unlike(self, left, right, tree):
        self.wrong(Unlike, {"left": left, "right": right}, tree)

    def test_unlike(self):
        for word in ("union", "minus"):
            self.unlike(("s.good", "s.at"), ("l.x",), (word, SALES, LETTER))
            self.unlike(("x", "y.z"), ("y.z", "x"), (word, EMPTY, ("empty", ("y.z", "x"))))
            self.unlike(("x", "y.z"), ("x",), (word, EMPTY, ("empty", ("x",))))
            self.unlike(("l.x",), ("m.x",), (word, LETTER, ("table", "a", "m")))
            self.unlike(("x", "y.z"), ("x", "y.z", "w"), (word, EMPTY, ("empty", ("x", "y.z", "w"))))

    def test_unlike_in_postorder(self):
        inner, other = ("union", LETTER, EMPTY), ("minus", SALES, EMPTY)
        self.unlike(("l.x",), ("x", "y.z"), ("minus", inner, other))
        self.unlike(("s.good", "s.at"), ("x", "y.z"), ("minus", other, inner))
        self.unlike(("s.good", "s.at"), ("x", "y.z"), ("minus", LETTER, other))
        self.unlike(("l.x",), ("s.good", "s.at"), ("minus", LETTER, where(top(SALES), "s.at")))

    def test_pairs_may_be_unlike(self):
        self.assertSame(columns_of(SCHEMA, pair(LETTER, SALES)), ("l.x", "s.good", "s.at"))

    def test_columns_of_a_node_with_a_fault(self):
        """The columns are those of its left part, or what it names, whatever its fault."""
        self.unlike(("l.x",), ("s.good", "s.at"), top(("union", LETTER, SALES), "l.x"))
        self.no_column("s.at", top(("union", LETTER, SALES), "s.at"))
        self.repeated("a", where(("empty", ("a", "b", "a")), "a", "b"))
        self.no_column("none_such", where(read(LETTER, ("none_such", "c")), "c"))
        self.no_column("none_such", where(read(LETTER, ("none_such", "c")), "l.x"))
        self.unlike(("a", "b"), ("l.x",), ("union", read(EMPTY, ("x", "a"), ("y.z", "b")), LETTER))
        self.unlike(("x", "y.z"), ("s.good", "s.at"), ("union", LETTER, ("union", EMPTY, SALES)))

    def test_several_faults(self):
        """Of all the faults, the one whose error has the least number in point 6 is raised."""
        no_table, no_column = pair(LETTER, FISH), where(LETTER, "none_such")
        repeated, unlike = pair(GOODS, GOODS), ("union", LETTER, SALES)
        for parts in itertools.permutations((no_table, no_column, repeated, unlike)):
            self.wrong(NoTable, {"table": "fish"}, pair(pair(parts[0], parts[1]), pair(parts[2], parts[3])))
        for parts in itertools.permutations((no_column, repeated, unlike)):
            self.no_column("none_such", pair(pair(parts[0], parts[1]), parts[2]))
        for parts in itertools.permutations((repeated, unlike)):
            self.wrong(Repeated, {"label": "g.id"}, pair(parts[0], parts[1]))
            self.no_column("none_such", where(pair(parts[0], parts[1]), "none_such"))
        self.repeated("a", ("union", ("empty", ("a", "a")), ("empty", ("a",))))
        self.repeated("l.x", pair(("union", LETTER, SALES), LETTER))


def grown(draw, depth, made):
    """A right tree with its columns; `made` counts the names that are made up, so that none comes twice."""
    if depth == 0:
        table, *names = draw.choice((("goods", "id", "name", "price"), ("sales", "good", "at"), ("a", "x")))
        alias = fresh("t", made)
        columns = tuple([f"{alias}.{name}" for name in names])
        return draw.choice((("table", table, alias), ("empty", columns))), columns
    part, columns = grown(draw, depth - 1, made)
    word = draw.choice(("pair", "where", "read", "group", "union", "minus", "top"))
    if word == "pair":
        other, more = grown(draw, draw.randrange(depth), made)
        return pair(part, other), columns + more
    if word == "read":
        outs = tuple([fresh("r", made) for _ in columns])
        return read(part, *zip(columns, outs)), outs
    if word == "group":
        out = fresh("m", made)
        return group(part, columns[:1], (("most", columns[0], out),)), (columns[0], out)
    if word in ("union", "minus"):
        return (word, *draw.choice(((part, top(part)), (where(part), part), (("empty", columns), part)))), columns
    return (where if word == "where" else top)(part, columns[-1]), columns


def fresh(letter, made):
    made.append(letter)
    return f"{letter}{len(made)}"


def walked(tree, place=(), upwards=False):
    """The pairs (place, node) of the tree in preorder, or in postorder."""
    parts = {"table": 0, "empty": 0, "pair": 2, "union": 2, "minus": 2}.get(tree[0], 1)
    beneath = [pair for at in range(parts) for pair in walked(tree[1 + at], (*place, at), upwards)]
    return [*beneath, (place, tree)] if upwards else [(place, tree), *beneath]


class TestRandomTrees(StoreCase):
    def test_places_and_columns(self):
        draw = random.Random(31)
        sizes = []
        for _ in range(300):
            tree, columns = grown(draw, draw.randrange(7), [])
            nodes = walked(tree)
            if len(nodes) > 16:
                continue
            sizes.append(len(nodes))
            self.assertSame(places(tree), [place for place, _ in nodes])
            self.assertSame(places_up(tree), [place for place, _ in walked(tree, upwards=True)])
            for place, node in nodes:
                self.assertSame(subtree(tree, place), node)
                self.assertSame(replaced(tree, place, node), tree)
            self.assertSame(tables_in(tree), sorted({node[1] for _, node in nodes if node[0] == "table"}))
            self.assertSame(columns_of(SCHEMA, tree), columns)
        self.assertGreater(len(sizes), 150)
        self.assertEqual(max(sizes), 16)


if __name__ == "__main__":
    unittest.main()
