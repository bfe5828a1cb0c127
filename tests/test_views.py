"""Points 74 to 78: turns, papers, what a delta can touch, views and keepers."""

import random
import unittest

from storedesk.answers import answer
from storedesk.books import empty_book, is_book
from storedesk.deltas import apply_delta, difference, inverse
from storedesk.errors import (
    BadKind, BadWidth, CheckFailed, Dangling, Mismatch, NameTaken, NoColumn, NoTable, NoView, Repeated, Unlike,
)
from storedesk.reader import read_query
from storedesk.trees import columns_of, places_up, subtree, tables_in
from storedesk.views import Keeper, View, bag_turn, can_touch, is_turn, turn_paper
from tests import drawn
from tests.plainly import TOWN, TOWN_BOOK, town_delta
from tests.samples import BOOK, SCHEMA
from tests.support import StoreCase, exact, spoil

KV = (("t", (("k", "any"), ("x", "any")), ("k",), (), ()), ("s", (("k", "any"), ("y", "any")), ("k",), (), ()))
OLD = (("t", ((True, 1), (1, 1), (2, 5))), ("s", ((1, "a"),)))
NEW = (("t", ((True, True), (1, 1), (3, 5))), ("s", ((1, "a"), (2, "b"))))
T = ("table", "t", "t")
S = ("table", "s", "s")


def put(table, *row):
    return (table, row[:1], None, row)


def taken(table, *row):
    return (table, row[:1], row, None)


def turned(table, before, after):
    return (table, before[:1], before, after)


def plain_turn(before, after):
    """Point 74 without bags: each row that is left over."""
    return tuple(drawn.in_order(drawn.left_over(before, after))), tuple(drawn.in_order(drawn.left_over(after, before)))


def plain_paper(schema, first, second, tree):
    paper = []
    for place in places_up(tree):
        part = subtree(tree, place)
        gone, come = plain_turn(drawn.plain_answer(first, part, schema), drawn.plain_answer(second, part, schema))
        if gone or come:
            paper.append((place, gone, come))
    return tuple(paper)


class TestTurns(StoreCase):
    def test_bags(self):
        one, true, text = (1,), (True,), ("a",)
        for before, after, gone, come in (
            ([], [], (), ()),
            ([one], [one], (), ()),
            ([one, one], [one], (one,), ()),
            ([one], [one, one, one], (), (one, one)),
            ([text, one, true, one], [true, true, text], (one, one), (true,)),
            ([text, one, ()], [], ((), one, text), ()),
            ([], [text, one, true, one], (), (true, one, one, text)),
            ([(1, 2)], [(1, True)], ((1, 2),), ((1, True),)),
        ):
            for make in (list, tuple):
                self.assertCall(bag_turn, {"before": make(before), "after": make(after)}, (gone, come))
                self.assertCall(bag_turn, {"before": make(after), "after": make(before)}, (come, gone))

    def test_drawn_rows(self):
        draw = random.Random(74)
        for _ in range(200):
            before, after = [[(draw.choice(drawn.VALUES[:5]),) for _ in range(draw.randrange(12))] for _ in range(2)]
            self.assertSame(bag_turn(before, after), plain_turn(before, after))

    def test_many_rows(self):
        rows = [(at // 2, "x") for at in range(3000)]
        self.assertSame(bag_turn(rows, rows[2:]), (((0, "x"), (0, "x")), ()))


class TestPapers(StoreCase):
    def check(self, tree, wanted, schema=KV, first=OLD, second=NEW):
        arguments = {"schema": schema, "first": first, "second": second, "tree": tree}
        self.assertCall(turn_paper, arguments, wanted)
        self.assertSame(plain_paper(schema, first, second, tree), wanted)
        self.assertCall(is_turn, {**arguments, "paper": wanted}, True)

    def test_each_node(self):
        gone, come = ((True, 1), (2, 5)), ((True, True), (3, 5))
        base = ((0,), gone, come)
        whole = ((), gone, come)
        self.check(T, (whole,))
        self.check(S, (((), (), ((2, "b"),)),))
        self.check(("empty", ("x",)), ())
        self.check(("where", T, ("compare", "=", ("column", "t.x"), ("value", 5))), (base, ((), ((2, 5),), ((3, 5),))))
        self.check(("where", T, ("compare", "=", ("column", "t.k"), ("value", 1))), (base,))
        self.check(("read", T, (("t.x", "x"),)), (base, ((), ((1,),), ((True,),))))
        self.check(("group", T, (), (("count", None, "n"),)), (base,))
        self.check(("group", T, ("t.x",), (("count", None, "n"),)), (base, ((), ((1, 2),), ((True, 1), (1, 1)))))
        self.check(("top", T, (("t.k", "up"),), 2), (base, ((), ((True, 1),), ((True, True),))))
        self.check(("union", T, ("read", S, (("s.k", "t.k"), ("s.y", "t.x")))),
                   (base, ((1, 0), (), ((2, "b"),)), ((1,), (), ((2, "b"),)),
                    ((), gone, ((True, True), (2, "b"), (3, 5)))))
        self.check(("minus", T, T), (base, ((1,), gone, come)))
        self.check(("pair", ("where", T, ("compare", ">", ("column", "t.k"), ("value", 1))), S), (
            ((0, 0), gone, come), ((0,), ((2, 5),), ((3, 5),)), ((1,), (), ((2, "b"),)),
            ((), ((2, 5, 1, "a"),), ((3, 5, 1, "a"), (3, 5, 2, "b"))),
        ))

    def test_nothing_changes(self):
        for tree in (T, ("pair", T, S), ("empty", ("x",))):
            self.check(tree, (), first=OLD, second=OLD)
        self.check(("pair", S, ("empty", ("x",))), (((0,), (), ((2, "b"),)),))

    def test_drawn_trees(self):
        draw = random.Random(75)
        for tree, _ in drawn.trees(draw, 150):
            first, second = drawn.book(draw), drawn.book(draw)
            self.check(tree, plain_paper(drawn.SCHEMA, first, second, tree), drawn.SCHEMA, first, second)

    def test_is_turn(self):
        tree = ("pair", ("where", T, ("compare", ">=", ("column", "t.k"), ("value", 1))), S)
        paper = turn_paper(KV, OLD, NEW, tree)
        self.assertIs(is_turn(KV, OLD, NEW, tree, paper), True)
        self.assertIs(is_turn(KV, OLD, OLD, tree, ()), True)
        wrong = [(), paper[1:], paper[:-1], paper[::-1], (*paper, paper[-1]), (paper[1], paper[0], *paper[2:]),
                 turn_paper(KV, NEW, OLD, tree)]
        for at, (place, gone, come) in enumerate(paper):
            for other in (
                ((*place, 0), gone, come), (place[:-1], gone, come) if place else ((1, 1), gone, come),
                (place, come, gone), (place, gone[::-1], (*come, ("x",))), (place, gone, come[1:]),
                (place, (*gone, (9, 9)), come), (place, gone, (*come, come[-1])),
            ):
                wrong.append((*paper[:at], other, *paper[at + 1:]))
        for other in wrong:
            self.assertCall(is_turn, {"schema": KV, "first": OLD, "second": NEW, "tree": tree, "paper": other}, False)

    def test_is_turn_with_true_for_one(self):
        paper = turn_paper(KV, OLD, NEW, T)
        self.assertSame(paper, (((), ((True, 1), (2, 5)), ((True, True), (3, 5))),))
        for other in ((((), ((1, 1), (2, 5)), ((True, True), (3, 5))),),
                      (((), ((True, 1), (2, 5)), ((True, 1), (3, 5))),),
                      (((), ((True, True), (2, 5)), ((True, True), (3, 5))),)):
            self.assertIs(is_turn(KV, OLD, NEW, T, other), False)
        deep = ("read", T, (("t.k", "k"),))
        paper = turn_paper(KV, OLD, NEW, deep)
        self.assertSame(paper[0][0], (0,))
        self.assertIs(is_turn(KV, OLD, NEW, deep, ((((False,), *paper[0][1:])), *paper[1:])), False)

    def test_another_order_of_rows(self):
        (place, gone, come), = turn_paper(KV, OLD, NEW, T)
        self.assertIs(is_turn(KV, OLD, NEW, T, ((place, gone[::-1], come),)), False)
        self.assertIs(is_turn(KV, OLD, NEW, T, ((place, gone, come[::-1]),)), False)


def compare(op, label, value):
    return ("compare", op, ("column", label), ("value", value))


class TestCanTouch(StoreCase):
    big = compare(">", "t.x", 5)

    def check(self, tree, wanted, *delta):
        self.assertCall(can_touch, {"schema": KV, "tree": tree, "delta": delta}, wanted)

    def test_tables(self):
        self.check(T, False)
        self.check(T, True, put("t", 1, 1))
        self.check(T, False, put("s", 1, 1))
        self.check(T, True, put("s", 1, 1), put("t", 1, 1))
        self.check(("pair", T, S), True, put("s", 1, 1))
        self.check(("empty", ("x",)), False, put("s", 1, 1), put("t", 1, 1))

    def test_before_and_after(self):
        tree = ("where", T, self.big)
        for edit, wanted in (
            (put("t", 1, 5), False), (put("t", 1, 6), True), (taken("t", 1, 5), False), (taken("t", 1, 6), True),
            (turned("t", (1, 4), (1, 5)), False), (turned("t", (1, 6), (1, 5)), True),
            (turned("t", (1, 5), (1, 6)), True), (turned("t", (1, 6), (1, 7)), True),
        ):
            self.check(tree, wanted, edit)
            self.check(tree, wanted, put("t", 0, 0), edit)
            self.check(tree, True, put("t", 0, 9), edit)

    def test_all_conditions_must_hold_for_one_row(self):
        tree = ("where", ("where", T, self.big), compare("<", "t.k", 3))
        self.check(tree, True, put("t", 2, 6))
        self.check(tree, False, put("t", 3, 6))
        self.check(tree, False, put("t", 2, 5))
        self.check(tree, False, put("t", 2, 5), put("t", 3, 6))
        self.check(tree, False, turned("t", (2, 4), (2, 5)))

    def test_conjuncts(self):
        pair = ("pair", T, S)
        mixed = ("compare", "=", ("column", "t.k"), ("column", "s.k"))
        other = compare("=", "s.y", "never")
        self.check(("where", pair, ("and", mixed, ("and", other, self.big))), True, put("t", 1, 6))
        self.check(("where", pair, ("and", mixed, ("and", other, self.big))), False, put("t", 1, 5))
        self.check(("where", pair, ("or", other, self.big)), True, put("t", 1, 5))
        self.check(("where", pair, mixed), True, put("t", 1, 5))
        self.check(("where", pair, other), True, put("t", 1, 5))
        self.check(("where", pair, other), False, put("s", 1, 5))
        self.check(("where", pair, other), True, put("s", 1, "never"))
        both = ("where", T, ("compare", "=", ("column", "t.k"), ("column", "t.x")))
        self.check(both, False, put("t", 1, True))
        self.check(both, True, put("t", 1, 1))

    def test_conjuncts_without_labels(self):
        never = ("compare", "=", ("value", 1), ("value", True))
        for tree in (("where", T, ("false",)), ("where", ("pair", T, S), never),
                     ("where", ("pair", S, ("where", T, ("true",))), ("and", ("true",), ("not", ("true",))))):
            self.check(tree, False, put("t", 1, 1), put("s", 1, 1))
        always = ("compare", "=", ("value", 1), ("value", 1))
        self.check(("where", ("pair", T, S), always), True, put("t", 1, 1))
        # The condition is taken as it stands, so this one is no conjunct that fails.
        self.check(("where", T, ("or", ("false",), self.big)), False, put("t", 1, 5))
        self.check(("where", T, ("or", ("false",), self.big)), True, put("t", 1, 6))

    def test_what_stands_between(self):
        for between in (lambda part: ("read", part, (("t.k", "t.k"), ("t.x", "t.x"))),
                        lambda part: ("top", part, (), 9),
                        lambda part: ("union", part, ("empty", ("t.k", "t.x"))),
                        lambda part: ("minus", part, ("empty", ("t.k", "t.x"))),
                        lambda part: ("group", part, ("t.k", "t.x"), ())):
            self.check(("where", between(T), self.big), True, put("t", 1, 5))
            self.check(("where", between(("where", T, self.big)), ("false",)), False, put("t", 1, 5))
            self.check(("where", between(("where", T, self.big)), ("false",)), True, put("t", 1, 6))
            self.check(("pair", ("where", between(T), ("false",)), S), True, put("t", 1, 5))
        self.check(("where", ("pair", ("pair", T, S), ("table", "s", "r")), self.big), False, put("t", 1, 5))
        self.check(("where", ("where", ("pair", ("where", ("pair", S, T), ("true",)), ("table", "s", "r")), ("true",)),
                    self.big), False, put("t", 1, 5))

    def test_several_nodes_of_one_table(self):
        tree = ("pair", ("where", T, self.big), ("where", ("table", "t", "u"), compare("<", "u.x", 3)))
        self.check(tree, True, put("t", 1, 6))
        self.check(tree, True, put("t", 1, 2))
        self.check(tree, False, put("t", 1, 4))

    def test_drawn_trees(self):
        """If a delta can not touch a tree, its answer stays the same; and a plain reading says when it can."""
        draw = random.Random(77)
        untouched = 0
        for tree, _ in drawn.trees(draw, 600, most=8):
            book = drawn.book(draw)
            later = tuple([new if draw.random() < 0.4 else old for old, new in zip(book, drawn.book(draw))])
            delta = difference(drawn.SCHEMA, book, later)
            touches = can_touch(drawn.SCHEMA, tree, delta)
            self.assertIs(touches, plain_can_touch(tree, delta), (tree, delta))
            if not touches:
                untouched += len(delta) > 0 and not set([edit[0] for edit in delta]).isdisjoint(tables_in(tree))
                self.assertSame(answer(drawn.SCHEMA, book, tree), answer(drawn.SCHEMA, later, tree))
        self.assertGreater(untouched, 20)


def plain_can_touch(tree, delta):
    """Point 77, going up from each table node."""
    for place in places_up(tree):
        node = subtree(tree, place)
        if node[0] != "table":
            continue
        columns = drawn.plain(empty_book(drawn.SCHEMA), node)[0]
        own, above = [], place
        while above and subtree(tree, above[:-1])[0] in ("where", "pair"):
            above = above[:-1]
            if subtree(tree, above)[0] == "where":
                own += [one for one in plain_conjuncts(subtree(tree, above)[2]) if labels_in(one) <= set(columns)]
        for table, _, before, after in delta:
            rows = [row for row in (before, after) if row is not None and table == node[1]]
            if any([all([drawn.truth(one, columns, row) for one in own]) for row in rows]):
                return True
    return False


def plain_conjuncts(condition):
    if condition[0] == "and":
        return plain_conjuncts(condition[1]) + plain_conjuncts(condition[2])
    return [] if condition == ("true",) else [condition]


def labels_in(condition):
    if condition[0] == "compare":
        return {term[1] for term in condition[2:] if term[0] == "column"}
    return {label for part in condition[1:] for label in labels_in(part)}


class TestView(StoreCase):
    def test_creation(self):
        tree = ("top", T, (("t.x", "down"),), 2)
        for view in (View(KV, OLD, tree), View(tree=tree, book=OLD, schema=KV)):
            self.assertSame(view.rows, [(True, 1), (2, 5)])
            self.assertSame(view.columns, ("t.k", "t.x"))
            self.assertSame(view.tree, tree)
            spoil(view.rows)
            self.assertSame(view.rows, [(True, 1), (2, 5)])
        self.assertSame(View(KV, OLD, ("empty", ("x",))).rows, [])

    def test_faults(self):
        for error, attributes, text in (
            (NoTable, {"table": "q"}, "from t as t with q as q where x = 1"),
            (NoColumn, {"label": "k"}, "from t as t read k"),
            (Repeated, {"label": "t.k"}, "from t as t with t as t"),
            (Unlike, {"left": ("t.k", "t.x"), "right": ("s.k", "s.y")}, "from t as t minus s as s"),
        ):
            self.assertFails(error, attributes, View, KV, OLD, read_query(text))

    def test_turning(self):
        view = View(KV, OLD, ("pair", T, S))
        delta = difference(KV, OLD, NEW)
        self.assertSame(view.turn(delta), turn_paper(KV, OLD, NEW, ("pair", T, S)))
        self.assertSame(view.rows, answer(KV, NEW, ("pair", T, S)))
        self.assertSame(view.turn(()), ())
        self.assertSame(view.turn(delta=inverse(delta)), turn_paper(KV, NEW, OLD, ("pair", T, S)))
        self.assertSame(view.rows, answer(KV, OLD, ("pair", T, S)))

    def test_tables_that_are_not_in_the_tree(self):
        view = View(KV, OLD, T)
        self.assertSame(view.turn((put("s", 9, 9),)), ())
        self.assertSame(view.turn((put("s", 9, 9), put("t", 9, 9))), (((), (), ((9, 9),)),))
        self.assertSame(view.turn((taken("s", 77, "not there"),)), ())
        empty = View(KV, OLD, ("empty", ("x",)))
        self.assertSame(empty.turn((taken("s", 77, "not there"), taken("t", 1, "not so"))), ())

    def test_mismatch(self):
        view = View(KV, OLD, ("where", T, ("false",)))
        for key, delta in (
            ((1,), (taken("s", 7, 7), put("t", 0, 0), put("t", 1, 5), taken("t", 2, 6))),
            ((True,), (turned("t", (True, True), (True, 1)),)),
            ((7,), (taken("t", 7, 7),)),
            ((2,), (turned("t", (2, 6), (2, 5)), put("t", 3, 5))),
            # Only Mismatch is due here, also where a row would not fit.
            ((2,), (("t", (1,), (1, 1), (1,)), put("t", 2, 5))),
        ):
            self.assertFails(Mismatch, {"table": "t", "key": key}, view.turn, delta)
            self.assertFails(Mismatch, {"table": "t", "key": key}, view.turn, delta=delta)
        self.assertSame(view.turn(difference(KV, OLD, NEW)), turn_paper(KV, OLD, NEW, ("where", T, ("false",))))

    def test_drawn_trees(self):
        draw = random.Random(76)
        for tree, columns in drawn.trees(draw, 60):
            book = drawn.book(draw)
            view = View(drawn.SCHEMA, book, tree)
            self.assertSame(view.columns, columns)
            for _ in range(8):
                later = tuple([new if draw.random() < 0.5 else old for old, new in zip(book, drawn.book(draw))])
                delta = difference(drawn.SCHEMA, book, later)
                self.assertSame(view.turn(delta), turn_paper(drawn.SCHEMA, book, later, tree))
                book = later
                self.assertSame(view.rows, drawn.plain_answer(book, tree))
                self.assertSame((view.columns, view.tree), (columns, tree))

    def test_over_references(self):
        draw = random.Random(15)
        for tree, _ in town_trees(draw, 30):
            book = TOWN_BOOK
            view = View(TOWN, book, tree)
            for _ in range(8):
                delta = town_delta(draw, book)
                later = apply_delta(TOWN, book, delta, references=False)
                if is_book(TOWN, later):
                    self.assertSame(view.turn(delta), turn_paper(TOWN, book, later, tree))
                    book = later
                    self.assertSame(view.rows, answer(TOWN, book, tree))


def town_trees(draw, count):
    """Trees over the town with their columns."""
    texts = (
        "from person as p", "from city as c where c.size = 0", "from person as p with city as c where p.city = c.id",
        "from person as p group by p.city tell count as n, most p.id as m", "from note as n read n.text as x",
        "from city as c read c.id as x minus (from person as p read p.city as x)",
        "from person as a with person as b where a.boss = b.id and b.id > 1 read a.id, b.city",
        "from note as n with person as p where n.on = p.id top 2 by p.id down",
    )
    trees = [read_query(text) for text in texts]
    return [(tree, columns_of(TOWN, tree)) for tree in [draw.choice(trees) for _ in range(count)]]


class TestKeeper(StoreCase):
    def state(self, keeper):
        return keeper.book, keeper.names, [(keeper.show(name), keeper.columns_shown(name)) for name in keeper.names]

    def test_keeping(self):
        keeper = Keeper(book=OLD, schema=KV)
        self.assertSame((keeper.book, keeper.names), (OLD, ()))
        self.assertIsNone(keeper.keep("tops", ("top", T, (("t.x", "down"),), 2)))
        self.assertIsNone(keeper.keep(tree=S, name="all"))
        self.assertSame(keeper.names, ("all", "tops"))
        self.assertSame(keeper.show("tops"), [(True, 1), (2, 5)])
        self.assertSame(keeper.show(name="all"), [(1, "a")])
        self.assertSame(keeper.columns_shown("tops"), ("t.k", "t.x"))
        self.assertSame(keeper.columns_shown(name="all"), ("s.k", "s.y"))
        spoil(keeper.show("all"))
        self.assertSame(keeper.show("all"), [(1, "a")])
        self.assertIsNone(keeper.forget("all"))
        self.assertSame(keeper.names, ("tops",))
        keeper.keep("all", T)
        self.assertSame(keeper.show("all"), list(OLD[0][1]))
        self.assertIsNone(keeper.forget(name="all"))

    def test_errors(self):
        keeper = Keeper(SCHEMA, BOOK)
        keeper.keep("v", ("table", "ants", "a"))
        before = self.state(keeper)
        ant = ("ants", (9,), None, (9, None, None, 5))
        for error, attributes, call, *rest in (
            (NameTaken, {"name": "v"}, keeper.keep, "v", ("table", "ants", "a")),
            (NameTaken, {"name": "v"}, keeper.keep, "v", ("table", "nope", "a")),
            (NoTable, {"table": "nope"}, keeper.keep, "w", ("table", "nope", "a")),
            (NoColumn, {"label": "x"}, keeper.keep, "w", ("where", ("table", "zoo", "z"), compare("=", "x", 1))),
            (Repeated, {"label": "a.id"}, keeper.keep, "w", read_query("from ants as a with ants as a")),
            (Unlike, {}, keeper.keep, "w", read_query("from ants as a union zoo as z")),
            (NoView, {"name": "w"}, keeper.forget, "w"), (NoView, {"name": "w"}, keeper.show, "w"),
            (NoView, {"name": "w"}, keeper.columns_shown, "w"),
            (NoTable, {"table": "nope"}, keeper.turn, (ant, ("nope", (1,), None, (1,)), ("zoo", ("c",), None, ("c",)))),
            (BadWidth, {"row": ("c",)}, keeper.turn, (ant, ("zoo", ("c",), None, ("c",)))),
            (BadKind, {"column": "city"}, keeper.turn, (ant, ("zoo", ("c",), None, ("c", 5)))),
            (CheckFailed, {"check": 1}, keeper.turn, (("ants", (9,), None, (9, None, None, 100)),)),
            (Mismatch, {"key": (1,)}, keeper.turn, (("ants", (1,), None, (1, None, None, 5)), ant)),
            (Dangling, {"table": "ants", "reference": 0, "key": (1,)}, keeper.turn,
             (("zoo", ("a",), ("a", None), None),)),
        ):
            self.assertFails(error, attributes, call, *rest)
            self.assertSame(self.state(keeper), before)
        self.assertSame(keeper.turn((ant,)), ("v",))
        self.assertSame(keeper.show("v")[-1], (9, None, None, 5))
        self.assertSame(keeper.book, apply_delta(SCHEMA, BOOK, (ant,)))

    def test_names_that_have_changed(self):
        keeper = Keeper(KV, OLD)
        keeper.keep("z_all", T)
        keeper.keep("big", ("where", T, compare(">", "t.x", 5)))
        keeper.keep("count", ("group", T, (), (("count", None, "n"),)))
        keeper.keep("other", S)
        keeper.keep("top", ("top", T, (("t.k", "up"),), 1))
        self.assertSame(keeper.turn(()), ())
        self.assertSame(keeper.turn((put("t", 7, 1),)), ("count", "z_all"))
        self.assertSame(keeper.turn((turned("t", (7, 1), (7, 6)),)), ("big", "z_all"))
        self.assertSame(keeper.turn(delta=(put("s", 7, 6), turned("t", (True, 1), (True, True)))),
                        ("other", "top", "z_all"))
        self.assertSame(keeper.turn((put("t", 8, 8), taken("t", 7, 6))), ("big", "z_all"))
        keeper.forget("z_all")
        self.assertSame(keeper.turn((taken("t", 8, 8),)), ("big", "count"))
        self.assertSame(keeper.show("count"), [(3,)])

    def test_touchable(self):
        keeper = Keeper(KV, OLD)
        self.assertSame(keeper.touchable((put("t", 9, 9),)), ())
        keeper.keep("z_all", T)
        keeper.keep("big", ("where", T, compare(">", "t.x", 5)))
        keeper.keep("other", S)
        before = self.state(keeper)
        self.assertSame(keeper.touchable(()), ())
        self.assertSame(keeper.touchable((put("t", 9, 9),)), ("big", "z_all"))
        self.assertSame(keeper.touchable((put("t", 9, 1),)), ("z_all",))
        self.assertSame(keeper.touchable(delta=(put("s", 9, 1), put("t", 9, 1))), ("other", "z_all"))
        self.assertSame(self.state(keeper), before)

    def test_drawn_deltas(self):
        draw = random.Random(78)
        for _ in range(15):
            keeper, book = Keeper(TOWN, TOWN_BOOK), TOWN_BOOK
            views = {}
            for name, (tree, _) in zip("fedcba", town_trees(draw, 6)):
                keeper.keep(name, tree)
                views[name] = tree
            for _ in range(12):
                delta = town_delta(draw, book)
                later = apply_delta(TOWN, book, delta, references=False)
                if not is_book(TOWN, later):
                    self.assertFails(Dangling, {}, keeper.turn, delta)
                    continue
                touchable = keeper.touchable(delta)
                changed = [name for name in sorted(views)
                           if exact(answer(TOWN, book, views[name])) != exact(answer(TOWN, later, views[name]))]
                self.assertSame(touchable, tuple([name for name in sorted(views) if can_touch(TOWN, views[name],
                                                                                              delta)]))
                self.assertSame(keeper.turn(delta), tuple(changed))
                self.assertTrue(set(changed) <= set(touchable))
                book = later
                self.assertSame(keeper.book, book)
                for name, tree in views.items():
                    self.assertSame(keeper.show(name), answer(TOWN, book, tree))


if __name__ == "__main__":
    unittest.main()
