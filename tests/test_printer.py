"""Point 39: the printed texts of trees, changes and conditions."""

import random
import unittest

from storedesk.printer import write_change, write_condition, write_query
from storedesk.reader import read_change, read_condition, read_query
from tests import drawn
from tests.support import StoreCase

T = ("table", "t", "t")
U = ("table", "u", "v")


def compare(left, op="=", right=("value", 1)):
    return ("compare", op, ("column", left), right)


A, B, C, D = (compare("a"), compare("b"), compare("c"), compare("d"))


class PrinterCase(StoreCase):
    def query(self, tree, text):
        self.assertCall(write_query, {"tree": tree}, text)
        self.assertSame(write_query(tree, lines=False), text)
        self.assertSame(read_query(text), tree)
        self.assertSame(read_query(write_query(tree, lines=True)), tree)

    def staged(self, node, text):
        """The node has T as its left part, which is printed ahead of the text."""
        self.query(node, "from t as t " + text)

    def change(self, change, text):
        self.assertCall(write_change, {"change": change}, text)
        self.assertSame(read_change(text), change)

    def condition(self, condition, text):
        self.assertCall(write_condition, {"condition": condition}, text)
        self.assertSame(read_condition(text), condition)
        for node in (("where", T, condition), ("where", ("where", T, condition), condition)):
            wanted = "from t as t" + f" where {text}" * (1 if node[1] == T else 2)
            self.assertSame(write_query(node), wanted)
        if condition != ("true",):
            self.assertSame(write_change(("take", "t", condition)), "take t where " + text)


class TestQueries(PrinterCase):
    def test_sources(self):
        self.query(T, "from t as t")
        self.query(U, "from u as v")
        self.query(("empty", ("a",)), "from empty (a)")
        self.query(("empty", ("a", "b.c", "a")), "from empty (a, b.c, a)")

    def test_right_parts(self):
        for word, stage in (("pair", "with"), ("union", "union"), ("minus", "minus")):
            self.staged((word, T, U), f"{stage} u as v")
            self.staged((word, T, ("empty", ("a", "b"))), f"{stage} empty (a, b)")
            self.staged((word, T, ("where", U, A)), f"{stage} (from u as v where a = 1)")
            self.staged((word, T, ("top", U, (), 2)), f"{stage} (from u as v top 2)")
            self.staged((word, T, ("pair", T, U)), f"{stage} (from t as t with u as v)")
            self.staged((word, ("pair", T, U), T), f"with u as v {stage} t as t")
            self.staged((word, T, ("minus", U, ("union", T, ("read", U, (("a", "b"),))))),
                        f"{stage} (from u as v minus (from t as t union (from u as v read a as b)))")
            self.staged((word, T, ("group", ("empty", ("a",)), ("a",), ())), f"{stage} (from empty (a) group by a)")

    def test_left_parts(self):
        self.staged(("pair", ("union", ("minus", T, U), U), T), "minus u as v union u as v with t as t")
        self.staged(("top", ("where", ("read", T, (("a", "a"),)), A), (), 1), "read a where a = 1 top 1")
        self.query(("where", ("empty", ("a",)), A), "from empty (a) where a = 1")

    def test_where(self):
        self.staged(("where", T, ("true",)), "where always")
        self.staged(("where", T, ("false",)), "where never")
        self.staged(("where", ("where", T, A), B), "where a = 1 where b = 1")

    def test_items(self):
        self.staged(("read", T, (("a", "a"),)), "read a")
        self.staged(("read", T, (("a", "b"), ("t.a", "t.a"), ("t.a", "a"), ("a", "t.a"))),
                    "read a as b, t.a, t.a as a, a as t.a")

    def test_groups(self):
        self.staged(("group", T, ("a",), ()), "group by a")
        self.staged(("group", T, ("a", "t.b"), ()), "group by a, t.b")
        self.staged(("group", T, (), (("count", None, "n"),)), "group tell count as n")
        self.staged(("group", T, ("a",), (("count", None, "t.n"),)), "group by a tell count as t.n")
        self.staged(("group", T, ("a", "b"), (("sum", "a", "a"), ("least", "t.b", "l"), ("most", "c", "m"),
                                              ("count", None, "n"))),
                    "group by a, b tell sum a as a, least t.b as l, most c as m, count as n")

    def test_tops(self):
        self.staged(("top", T, (), 0), "top 0")
        self.staged(("top", T, (), 1000000), "top 1000000")
        self.staged(("top", T, (("a", "up"),), 3), "top 3 by a")
        self.staged(("top", T, (("a", "down"),), 3), "top 3 by a down")
        self.staged(("top", T, (("a", "down"), ("t.b", "up"), ("a", "up"), ("c", "down")), 3),
                    "top 3 by a down, t.b, a, c down")

    def test_wrong_trees(self):
        """No schema is known, so trees with the faults of point 32 are printed, too."""
        self.staged(("union", T, ("empty", ("a",))), "union empty (a)")
        self.staged(("pair", T, T), "with t as t")
        self.staged(("read", T, (("none_such", "x"), ("b", "x"))), "read none_such as x, b as x")
        self.staged(("group", T, ("a", "a"), (("count", None, "a"),)), "group by a, a tell count as a")


class TestLines(PrinterCase):
    def lines(self, tree, text):
        self.assertSame(write_query(tree, lines=True), text)
        self.assertSame(write_query(lines=True, tree=tree), text)
        self.assertSame(write_query(tree), text.replace("\n", " "))
        self.assertSame(read_query(text), tree)

    def test_stages(self):
        self.lines(T, "from t as t")
        self.lines(("where", T, A), "from t as t\nwhere a = 1")
        self.lines(("top", ("read", ("group", ("where", ("minus", ("union", ("pair", T, U), U), U), A), ("a",), ()),
                            (("a", "b"),)), (("b", "down"),), 2),
                   "from t as t\nwith u as v\nunion u as v\nminus u as v\nwhere a = 1\ngroup by a\nread a as b\n"
                   "top 2 by b down")

    def test_within_parentheses(self):
        inner = ("top", ("where", U, ("or", A, B)), (), 1)
        self.lines(("read", ("pair", T, inner), (("a", "a"),)),
                   "from t as t\nwith (from u as v where a = 1 or b = 1 top 1)\nread a")
        self.lines(("union", ("where", T, ("and", ("or", A, B), C)), ("minus", inner, inner)),
                   "from t as t\nwhere (a = 1 or b = 1) and c = 1\nunion (from u as v where a = 1 or b = 1 top 1 "
                   "minus (from u as v where a = 1 or b = 1 top 1))")


class TestConditions(PrinterCase):
    def test_operands(self):
        self.condition(("true",), "always")
        self.condition(("false",), "never")
        for op in ("=", "!=", "<", "<=", ">", ">="):
            self.condition(compare("a.b", op, ("column", "c")), f"a.b {op} c")
            self.condition(("compare", op, ("value", None), ("column", "c.d")), f"none {op} c.d")

    def test_values(self):
        for content, text in (
            (None, "none"), (True, "true"), (False, "false"), (0, "0"), (1, "1"), (-7, "-7"), (10 ** 29,
                                                                                               "1" + "0" * 29),
            ("", '""'), ("a b", '"a b"'), ('"', '"\\""'), ("\\", '"\\\\"'), ('a\\"b', '"a\\\\\\"b"'), ("a, (b) .",
                                                                                                       '"a, (b) ."'),
            ("none", '"none"'), ("or", '"or"'),
        ):
            self.condition(compare("a", "=", ("value", content)), "a = " + text)
            self.condition(("compare", "<", ("value", content), ("value", content)), f"{text} < {text}")

    def test_parentheses(self):
        for condition, text in (
            (("not", A), "not a = 1"), (("not", ("true",)), "not always"), (("not", ("not", A)), "not not a = 1"),
            (("not", ("and", A, B)), "not (a = 1 and b = 1)"), (("not", ("or", A, B)), "not (a = 1 or b = 1)"),
            (("and", A, B), "a = 1 and b = 1"), (("or", A, B), "a = 1 or b = 1"),
            (("and", ("and", A, B), C), "a = 1 and b = 1 and c = 1"),
            (("and", A, ("and", B, C)), "a = 1 and (b = 1 and c = 1)"),
            (("and", ("or", A, B), C), "(a = 1 or b = 1) and c = 1"),
            (("and", A, ("or", B, C)), "a = 1 and (b = 1 or c = 1)"),
            (("and", ("not", A), ("not", B)), "not a = 1 and not b = 1"),
            (("and", A, ("true",)), "a = 1 and always"),
            (("or", ("or", A, B), C), "a = 1 or b = 1 or c = 1"),
            (("or", A, ("or", B, C)), "a = 1 or (b = 1 or c = 1)"),
            (("or", ("and", A, B), C), "a = 1 and b = 1 or c = 1"),
            (("or", A, ("and", B, C)), "a = 1 or b = 1 and c = 1"),
            (("or", ("not", A), ("not", B)), "not a = 1 or not b = 1"),
            (("or", ("false",), A), "never or a = 1"),
            (("not", ("and", ("or", A, B), ("and", C, D))), "not ((a = 1 or b = 1) and (c = 1 and d = 1))"),
            (("and", ("not", ("or", A, B)), C), "not (a = 1 or b = 1) and c = 1"),
            (("or", ("and", ("or", A, B), C), ("or", D, ("not", ("and", A, B)))),
             "(a = 1 or b = 1) and c = 1 or (d = 1 or not (a = 1 and b = 1))"),
        ):
            self.condition(condition, text)


class TestChanges(PrinterCase):
    def test_puts(self):
        self.change(("put", "t", ((1,),)), "put t (1)")
        self.change(("put", "t", ((),)), "put t ()")
        self.change(("put", "goods", ((1, "a", None), (), (True, -5))), 'put goods (1, "a", none), (), (true, -5)')
        self.change(("put", "t", (('"', "\\"), (False,))), 'put t ("\\"", "\\\\"), (false)')

    def test_takes(self):
        self.change(("take", "t", ("true",)), "take t")
        self.change(("take", "t", ("false",)), "take t where never")
        self.change(("take", "t", ("not", ("true",))), "take t where not always")
        self.change(("take", "t", ("or", A, ("and", B, ("or", C, D)))),
                    "take t where a = 1 or b = 1 and (c = 1 or d = 1)")

    def test_sets(self):
        self.change(("set", "t", (("a", ("value", 1)),), ("true",)), "set t a to 1")
        self.change(("set", "t", (("a", ("column", "b")),), A), "set t a to b where a = 1")
        self.change(("set", "t", (("a", ("column", "x.b")), ("b", ("value", "q")), ("a", ("value", None))), ("false",)),
                    'set t a to x.b, b to "q", a to none where never')
        self.change(("set", "t", (("a", ("value", True)),), ("and", ("true",), ("true",))),
                    "set t a to true where always and always")


def parenthesized(text):
    """The pairs of places of matching parentheses outside of texts."""
    pairs, begun, quoted = [], [], False
    for at, mark in enumerate(text):
        if mark == '"':
            quoted = not quoted
        elif not quoted and mark == "(":
            begun.append(at)
        elif not quoted and mark == ")":
            pairs.append((begun.pop(), at))
    return pairs


def lettered(draw, nodes):
    """A condition of so many operands at least, each of its own."""
    if nodes == 1:
        left = ("column", draw.choice(("a", "b.c")))
        right = ("value", draw.choice(drawn.VALUES))
        return draw.choice((("true",), ("false",), ("compare", draw.choice(drawn.OPS), left, right)))
    if draw.random() < 0.3:
        return ("not", lettered(draw, nodes - 1))
    left = draw.randrange(1, nodes)
    return (draw.choice(("and", "or")), lettered(draw, left), lettered(draw, nodes - left))


def deep(condition):
    return 1 + max([deep(part) for part in condition[1:]]) if condition[0] in ("not", "and", "or") else 0


class TestDrawn(PrinterCase):
    def test_conditions(self):
        draw = random.Random(39)
        enclosed = 0
        for _ in range(1500):
            condition = lettered(draw, draw.randrange(1, 9))
            if deep(condition) > 8:
                continue
            text = write_condition(condition)
            self.assertSame(read_condition(text), condition)
            self.assertSame(write_condition(read_condition(text)), text)
            # No parenthesis is printed besides those that are needed.
            for begin, end in parenthesized(text):
                enclosed += 1
                without = text[:begin] + text[begin + 1:end] + text[end + 1:]
                self.assertNotEqual(read_condition(without), condition, text)
        self.assertGreater(enclosed, 1000)

    def test_trees(self):
        draw = random.Random(40)
        for tree, _ in drawn.trees(draw, 500):
            for lines in (False, True):
                text = write_query(tree, lines=lines)
                self.assertSame(read_query(text), tree, text)
                self.assertSame(write_query(read_query(text), lines=lines), text)
            self.assertSame(write_query(tree, lines=True).replace("\n", " "), write_query(tree))
            self.assertSame(write_query(tree, lines=True).count("\n"), stages(tree))

    def test_reading_another_text(self):
        """A text with needless words and spaces is printed in the one printed form."""
        self.assertSame(write_query(read_query("from(from t as t)where((a=1))read a as a top 2 by a up,b down")),
                        "from t as t where a = 1 read a top 2 by a, b down")
        self.assertSame(write_change(read_change("take t\nwhere always")), "take t")
        self.assertSame(write_change(read_change("put t( 1 ,none )")), "put t (1, none)")
        self.assertSame(write_condition(read_condition("( a . b<1 )or(c=2 and(not(d=3)))")),
                        "a.b < 1 or c = 2 and not d = 3")


def stages(tree):
    """The number of the stages that stand outside of parentheses."""
    return 0 if tree[0] in ("table", "empty") else 1 + stages(tree[1])


if __name__ == "__main__":
    unittest.main()
