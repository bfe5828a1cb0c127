"""Points 42, 43 and 46: the rules, taking steps, blocks and arranged trees."""

import copy
import itertools
import random
import unittest

from storedesk.answers import answer
from storedesk.errors import NoPlace, NoStep
from storedesk.steps import RULES, SHRINKING, applies, arranged, blocks, take_step
from storedesk.trees import columns_of, places, replaced
from tests import drawn
from tests.support import StoreCase

SCHEMA = (
    ("t", (("id", "number"), ("x", "any"), ("y", "any")), ("id",), (), ()),
    ("u", (("k", "any"),), ("k",), (), ()),
)
T = ("table", "t", "t")
U = ("table", "u", "u")
V = ("table", "u", "v")
W = ("table", "u", "w")
EMPTY = ("empty", ("a", "b"))
NO_U = ("empty", ("u.k",))
TRUE = ("true",)
FALSE = ("false",)
COUNT = (("count", None, "n"),)
T_ITEMS = (("t.id", "t.id"), ("t.x", "t.x"), ("t.y", "t.y"))


def compare(op, left, right):
    """A comparison of two columns or values; a text is a label."""
    terms = [("column", one) if isinstance(one, str) else ("value", one) for one in (left, right)]
    return ("compare", op, *terms)


T1 = compare("=", "t.id", 1)
T2 = compare("<", "t.x", "t.y")
T3 = compare(">", "t.y", 3)
U1 = compare("=", "u.k", 1)
U2 = compare("!=", "u.k", 2)
TU = compare("=", "t.id", "u.k")
TU2 = ("or", T1, U1)
FREE = compare("=", 1, 2)


def both(*conditions):
    joined = conditions[0]
    for condition in conditions[1:]:
        joined = ("and", joined, condition)
    return joined


def where(part, *conditions):
    return ("where", part, both(*conditions))


def pair(left, right):
    return ("pair", left, right)


def read(part, *labels):
    """The labels that are texts are read under their own names."""
    return ("read", part, tuple([(one, one) if isinstance(one, str) else one for one in labels]))


def top(part, n, *keys):
    return ("top", part, tuple([(label, "down") for label in keys]), n)


class StepCase(StoreCase):
    def step(self, rule, tree, wanted, order=(), schema=SCHEMA):
        """The rule makes `wanted` of the tree, also where the tree is a part of another one."""
        arguments = {"schema": schema, "tree": tree, "step": (rule, (), order)}
        self.assertCall(take_step, arguments, wanted)
        self.assertCall(applies, arguments, True)
        self.assertSame(columns_of(schema, wanted), columns_of(schema, tree))
        for place, whole in around(tree):
            arguments = {"schema": schema, "tree": whole, "step": (rule, place, order)}
            self.assertCall(take_step, arguments, replaced(whole, place, wanted))
            self.assertCall(applies, arguments, True)

    def none(self, rule, tree, order=(), schema=SCHEMA):
        for place, whole in [((), tree), *around(tree)]:
            step = (rule, place, order)
            self.assertFails(NoStep, {"rule": rule, "place": place}, take_step, schema, whole, step)
            self.assertFails(NoStep, {"rule": rule, "place": place}, take_step, step=step, tree=whole, schema=schema)
            self.assertCall(applies, {"schema": schema, "tree": whole, "step": step}, False)


def around(tree):
    """Pairs of a place and a tree that has this tree there, and no kind of node beside it that a rule looks at."""
    yield (0,), ("group", tree, (), COUNT)
    yield (1, 0), ("minus", ("group", T, (), COUNT), ("group", tree, (), COUNT))


class TestRuleNames(StoreCase):
    def test_rules(self):
        self.assertSame(RULES, (
            "fold", "drop", "stop", "merge", "sink_left", "sink_right", "sink_read", "sink_group", "sink_sides",
            "join_reads", "drop_read", "narrow_left", "narrow_right", "hollow", "drop_top", "swap", "turn_right",
            "turn_left", "arrange",
        ))
        self.assertSame(SHRINKING, RULES[:15])


class TestWhereRules(StepCase):
    def test_fold(self):
        for condition, wanted in (
            (FREE, FALSE), (("not", T1), compare("!=", "t.id", 1)), (both(T1, TRUE), T1), (both(TRUE, T1), T1),
            (("or", T1, T1), T1), (compare("<", 1, "t.x"), compare(">", "t.x", 1)), (compare("=", "t.x", "t.x"), TRUE),
            (("not", both(T1, T2)), ("or", compare("!=", "t.id", 1), compare(">=", "t.x", "t.y"))),
            (compare("=", 1, True), FALSE), (both(T3, ("not", ("not", T1))), both(T3, T1)),
        ):
            self.step("fold", where(T, condition), where(T, wanted))
        for condition in (TRUE, FALSE, T1, T2, both(T1, T2, T3), ("or", T1, T2), compare("<", "t.x", "t.y"),
                          both(compare("=", "t.x", 1), compare("=", "t.x", True))):
            self.none("fold", where(T, condition))
        for tree in (T, EMPTY, read(where(T, FREE), "t.id"), ("group", where(T, FREE), ("t.id",), ()),
                     top(where(T, FREE), 2)):
            self.none("fold", tree)
        self.step("fold", where(where(T, FREE), ("not", TRUE)), where(where(T, FREE), FALSE))

    def test_drop(self):
        self.step("drop", where(T, TRUE), T)
        self.step("drop", where(where(T, TRUE), TRUE), where(T, TRUE))
        self.step("drop", where(pair(T, U), TRUE), pair(T, U))
        for condition in (FALSE, both(TRUE, TRUE), ("not", FALSE), ("or", TRUE, T1), T1, compare("=", 1, 1)):
            self.none("drop", where(T, condition))
        self.none("drop", T)
        self.none("drop", top(where(T, TRUE), 1))

    def test_stop(self):
        self.step("stop", where(T, FALSE), ("empty", ("t.id", "t.x", "t.y")))
        self.step("stop", where(pair(U, T), FALSE), ("empty", ("u.k", "t.id", "t.x", "t.y")))
        self.step("stop", where(read(T, ("t.x", "q")), FALSE), ("empty", ("q",)))
        self.step("stop", where(where(U, U1), FALSE), NO_U)
        for condition in (TRUE, both(FALSE, FALSE), both(T1, FALSE), ("not", TRUE), FREE):
            self.none("stop", where(T, condition))
        self.none("stop", pair(where(T, FALSE), U))

    def test_merge(self):
        self.step("merge", where(where(T, T1), T2), where(T, ("and", T1, T2)))
        self.step("merge", where(where(T, TRUE), FALSE), where(T, ("and", TRUE, FALSE)))
        # The conditions stay nested as they are.
        self.step("merge", where(where(T, both(T1, T2)), both(T2, T3)), where(T, ("and", both(T1, T2), both(T2, T3))))
        self.step("merge", where(where(where(T, T1), T2), T3), where(where(T, T1), ("and", T2, T3)))
        for tree in (where(T, T1), where(read(where(T, T1), "t.id"), T1), where(pair(where(T, T1), U), T1),
                     read(where(T, T1), "t.id"), top(where(where(T, T1), T2), 1)):
            self.none("merge", tree)


class TestSinking(StepCase):
    def test_into_the_left_part(self):
        self.step("sink_left", where(pair(T, U), T1), pair(where(T, T1), U))
        self.step("sink_left", where(pair(T, U), T1, U1), where(pair(where(T, T1), U), U1))
        self.step("sink_left", where(pair(T, U), U1, T1), where(pair(where(T, T1), U), U1))
        self.step("sink_left", where(pair(T, U), T1, TU, T2, U1, T3), where(pair(where(T, T1, T2, T3), U), TU, U1))
        self.step("sink_left", where(pair(T, U), both(U1, both(T2, both(TU, T1)))), where(pair(where(T, T2, T1), U),
                                                                                          U1, TU))
        self.step("sink_left", where(pair(where(T, T1), U), T1), pair(where(where(T, T1), T1), U))

    def test_into_the_right_part(self):
        self.step("sink_right", where(pair(T, U), U1), pair(T, where(U, U1)))
        self.step("sink_right", where(pair(T, U), T1, U1), where(pair(T, where(U, U1)), T1))
        self.step("sink_right", where(pair(T, U), U1, T1, U2, TU, T3), where(pair(T, where(U, U1, U2)), T1, TU, T3))
        self.step("sink_right", where(pair(T, U), both(both(T1, U2), both(U1, TRUE))), where(pair(T, where(U, U2, U1)),
                                                                                             T1))

    def test_conjuncts_without_labels(self):
        """They have only labels in anything."""
        for free in (FREE, FALSE, ("not", FALSE), ("or", TRUE, FREE), ("not", both(TRUE, FREE))):
            self.step("sink_left", where(pair(T, U), free), pair(where(T, free), U))
            self.step("sink_right", where(pair(T, U), free), pair(T, where(U, free)))
            self.step("sink_left", where(pair(T, U), U1, free, T1), where(pair(where(T, free, T1), U), U1))
            self.step("sink_right", where(pair(T, U), free, T1, U1), where(pair(T, where(U, free, U1)), T1))
            self.step("sink_group", where(("group", T, ("t.x",), COUNT), free), ("group", where(T, free), ("t.x",),
                                                                                 COUNT))

    def test_true_has_no_conjuncts(self):
        for condition in (TRUE, both(TRUE, TRUE), both(TRUE, both(TRUE, TRUE))):
            for rule in ("sink_left", "sink_right"):
                self.none(rule, where(pair(T, U), condition))
            self.none("sink_group", where(("group", T, ("t.x",), COUNT), condition))
        self.step("sink_left", where(pair(T, U), both(TRUE, T1)), pair(where(T, T1), U))

    def test_both_sides_take_conjuncts(self):
        tree = where(pair(T, U), T1, U1)
        once = take_step(SCHEMA, tree, ("sink_left", (), ()))
        self.assertSame(take_step(SCHEMA, once, ("sink_right", (), ())), pair(where(T, T1), where(U, U1)))
        other = take_step(SCHEMA, tree, ("sink_right", (), ()))
        self.assertSame(take_step(SCHEMA, other, ("sink_left", (), ())), pair(where(T, T1), where(U, U1)))

    def test_pairs_nearly(self):
        for rule, condition in (("sink_left", U1), ("sink_right", T1), ("sink_left", TU), ("sink_right", TU),
                                ("sink_left", TU2), ("sink_right", TU2), ("sink_left", ("not", both(T1, U1))),
                                ("sink_left", both(TU, U1)), ("sink_right", both(TU, T1))):
            self.none(rule, where(pair(T, U), condition))
        for rule in ("sink_left", "sink_right"):
            for tree in (pair(where(T, T1), where(U, U1)), where(T, T1), where(("union", T, T), T1),
                         where(where(pair(T, U), T1), U1), where(top(pair(T, U), 2), T1, U1), pair(T, U)):
                self.none(rule, tree)

    def test_into_a_read(self):
        self.step("sink_read", where(read(T, ("t.x", "a"), ("t.id", "b")), compare("<", "a", 1)),
                  read(where(T, compare("<", "t.x", 1)), ("t.x", "a"), ("t.id", "b")))
        # All labels are replaced at once.
        self.step("sink_read", where(read(T, ("t.x", "t.y"), ("t.y", "t.x")), compare("<", "t.x", "t.y")),
                  read(where(T, compare("<", "t.y", "t.x")), ("t.x", "t.y"), ("t.y", "t.x")))
        # Two items read one column.
        self.step("sink_read", where(read(T, ("t.x", "a"), ("t.x", "b")), both(compare("=", "a", "b"), compare("=",
                                                                                                               "b",
                                                                                                               1))),
                  read(where(T, compare("=", "t.x", "t.x"), compare("=", "t.x", 1)), ("t.x", "a"), ("t.x", "b")))
        for condition in (TRUE, FALSE, FREE, both(TRUE, ("not", FREE))):
            self.step("sink_read", where(read(T, ("t.x", "a")), condition), read(where(T, condition), ("t.x", "a")))
        self.step("sink_read", where(read(where(T, T1), "t.id"), ("or", T1, ("not", T1))),
                  read(where(where(T, T1), ("or", T1, ("not", T1))), "t.id"))
        for tree in (read(where(T, T1), "t.id"), where(T, T1), where(where(read(T, "t.id"), T1), T1)):
            self.none("sink_read", tree)

    def test_into_a_group(self):
        grouped = ("group", T, ("t.x", "t.id"), COUNT)
        n = compare(">", "n", 1)
        self.step("sink_group", where(grouped, T1), ("group", where(T, T1), ("t.x", "t.id"), COUNT))
        self.step("sink_group", where(grouped, n, T1), where(("group", where(T, T1), ("t.x", "t.id"), COUNT), n))
        x = compare("=", "t.x", 2)
        self.step("sink_group", where(grouped, T1, n, x, compare("=", "t.x", "n")),
                  where(("group", where(T, T1, x), ("t.x", "t.id"), COUNT), n, compare("=", "t.x", "n")))
        self.step("sink_group", where(("group", T, ("t.x",), ()), x), ("group", where(T, x), ("t.x",), ()))
        # "t.id" is a column of the part as well, but stands for the aggregate here.
        over = ("group", T, ("t.x",), (("most", "t.id", "t.id"),))
        self.none("sink_group", where(over, T1))
        self.step("sink_group", where(over, T1, x), where(("group", where(T, x), ("t.x",), (("most", "t.id", "t.id"),
                                                                                            )), T1))
        for condition in (n, ("or", n, T1), ("not", both(n, T1)), compare("=", "t.x", "n")):
            self.none("sink_group", where(grouped, condition))
        for condition in (FREE, FALSE, n, both(FREE, n)):
            self.none("sink_group", where(("group", T, (), COUNT), condition))
        self.none("sink_group", grouped)
        self.none("sink_group", where(read(grouped, "t.x"), x))

    def test_into_both_sides(self):
        for word in ("union", "minus"):
            self.step("sink_sides", where((word, T, top(T, 2)), T1), (word, where(T, T1), where(top(T, 2), T1)))
            for condition in (TRUE, FALSE, FREE, both(T1, both(TRUE, T2)), ("not", ("not", T1))):
                self.step("sink_sides", where((word, T, T), condition), (word, where(T, condition), where(T,
                                                                                                          condition)))
            self.none("sink_sides", (word, where(T, T1), where(T, T1)))
            self.none("sink_sides", top((word, T, T), 1))
        self.none("sink_sides", where(pair(T, U), T1))
        self.none("sink_sides", where(T, T1))


class TestReadRules(StepCase):
    def test_join_reads(self):
        self.step("join_reads", read(read(T, ("t.x", "a"), ("t.id", "b")), ("b", "c"), ("a", "d")),
                  read(T, ("t.id", "c"), ("t.x", "d")))
        self.step("join_reads", read(read(T, ("t.x", "t.y"), ("t.y", "t.x")), "t.x", "t.y"),
                  read(T, ("t.y", "t.x"), ("t.x", "t.y")))
        self.step("join_reads", read(read(T, ("t.x", "a")), ("a", "b"), ("a", "c")), read(T, ("t.x", "b"), ("t.x",
                                                                                                            "c")))
        self.step("join_reads", read(read(T, ("t.x", "a"), ("t.x", "b")), ("b", "a")), read(T, ("t.x", "a")))
        self.step("join_reads", read(read(read(T, "t.x"), "t.x"), "t.x"), read(read(T, "t.x"), "t.x"))
        for tree in (read(T, "t.x"), where(read(read(T, "t.x"), "t.x"), TRUE), read(where(read(T, "t.x"), TRUE),
                                                                                    "t.x")):
            self.none("join_reads", tree)

    def test_drop_read(self):
        self.step("drop_read", ("read", T, T_ITEMS), T)
        self.step("drop_read", read(U, "u.k"), U)
        self.step("drop_read", read(EMPTY, "a", "b"), EMPTY)
        self.step("drop_read", read(read(T, ("t.x", "q")), "q"), read(T, ("t.x", "q")))
        self.step("drop_read", read(pair(U, V), "u.k", "v.k"), pair(U, V))
        for tree in (("read", T, T_ITEMS[:2]), ("read", T, T_ITEMS[1:]), read(EMPTY, "b", "a"), read(U, ("u.k", "k")),
                     ("read", T, (*T_ITEMS, ("t.x", "q"))), read(T, "t.id", ("t.x", "t.y"), ("t.y", "t.x")), T,
                     read(pair(U, V), "v.k", "u.k"), ("group", U, ("u.k",), ())):
            self.none("drop_read", tree)

    def test_narrow(self):
        self.step("narrow_left", read(pair(T, U), "t.x", "u.k"), read(pair(read(T, "t.x"), U), "t.x", "u.k"))
        self.step("narrow_right", read(pair(U, T), "t.x", "u.k"), read(pair(U, read(T, "t.x")), "t.x", "u.k"))
        # The columns stand in their own order, each once, and the outs are not looked at.
        items = (("t.y", "p"), ("u.k", "t.x"), ("t.id", "q"), ("t.y", "r"))
        self.step("narrow_left", ("read", pair(T, U), items), ("read", pair(read(T, "t.id", "t.y"), U), items))
        self.step("narrow_right", ("read", pair(U, T), items), ("read", pair(U, read(T, "t.id", "t.y")), items))
        # No column of the part is read, so only its first one stays.
        self.step("narrow_left", read(pair(T, U), "u.k"), read(pair(read(T, "t.id"), U), "u.k"))
        self.step("narrow_right", read(pair(U, T), ("u.k", "t.x")), read(pair(U, read(T, "t.id")), ("u.k", "t.x")))
        self.step("narrow_left", read(pair(pair(U, V), T), "v.k"), read(pair(read(pair(U, V), "v.k"), T), "v.k"))

    def test_narrow_nearly(self):
        self.none("narrow_left", ("read", pair(T, U), T_ITEMS))
        self.none("narrow_right", read(pair(U, T), ("t.y", "q1"), ("t.x", "q2"), ("t.id", "q3")))
        self.none("narrow_left", read(pair(U, T), "t.x"))
        self.none("narrow_right", read(pair(T, U), "t.x"))
        self.none("narrow_left", read(pair(U, V), ("v.k", "u.k")))
        for rule in ("narrow_left", "narrow_right"):
            for tree in (pair(T, U), read(T, "t.x"), read(("union", T, T), "t.x"), where(pair(T, U), T1),
                         read(where(pair(T, U), T1), "t.x"), ("group", pair(T, U), ("t.x",), ())):
                self.none(rule, tree)

    def test_narrow_both(self):
        tree = read(pair(T, ("table", "t", "s")), "t.x", "s.y")
        once = read(pair(read(T, "t.x"), ("table", "t", "s")), "t.x", "s.y")
        self.step("narrow_left", tree, once)
        self.step("narrow_right", once, read(pair(read(T, "t.x"), read(("table", "t", "s"), "s.y")), "t.x", "s.y"))


class TestHollow(StepCase):
    def test_pairs(self):
        self.step("hollow", pair(EMPTY, T), ("empty", ("a", "b", "t.id", "t.x", "t.y")))
        self.step("hollow", pair(U, EMPTY), ("empty", ("u.k", "a", "b")))
        self.step("hollow", pair(EMPTY, ("empty", ("c",))), ("empty", ("a", "b", "c")))

    def test_single_parts(self):
        self.step("hollow", where(EMPTY, compare("=", "a", 1)), EMPTY)
        self.step("hollow", where(EMPTY, TRUE), EMPTY)
        self.step("hollow", read(EMPTY, ("b", "c"), ("b", "a")), ("empty", ("c", "a")))
        self.step("hollow", top(EMPTY, 3, "a"), EMPTY)
        self.step("hollow", top(EMPTY, 0), EMPTY)
        self.step("hollow", ("group", EMPTY, ("b",), COUNT), ("empty", ("b", "n")))
        self.step("hollow", ("group", EMPTY, ("b", "a"), ()), ("empty", ("b", "a")))
        self.none("hollow", ("group", EMPTY, (), COUNT))

    def test_sides(self):
        self.step("hollow", ("union", NO_U, U), U)
        self.step("hollow", ("union", U, NO_U), U)
        self.step("hollow", ("union", NO_U, NO_U), NO_U)
        self.step("hollow", ("union", where(U, U1), NO_U), where(U, U1))
        self.step("hollow", ("minus", NO_U, U), NO_U)
        self.step("hollow", ("minus", U, NO_U), U)
        self.step("hollow", ("minus", NO_U, NO_U), NO_U)
        self.step("hollow", ("minus", where(U, U1), NO_U), where(U, U1))
        self.step("hollow", ("minus", NO_U, where(U, U1)), NO_U)

    def test_nearly(self):
        for tree in (EMPTY, T, pair(T, U), pair(where(EMPTY, TRUE), T), where(T, FALSE), ("union", U, U), top(T, 0),
                     ("minus", U, where(U, FALSE)), read(T, "t.x"), where(pair(EMPTY, U), TRUE),
                     ("group", T, ("t.x",), ())):
            self.none("hollow", tree)


class TestDropTop(StepCase):
    def test_two_tops(self):
        for n, m in ((3, 3), (4, 3), (1000000, 0), (1, 0), (2, 1)):
            self.step("drop_top", top(top(T, m, "t.x"), n, "t.y"), top(T, m, "t.x"))
            self.step("drop_top", top(top(T, m), n), top(T, m))
        for n, m in ((2, 3), (1, 2), (1, 1000000)):
            self.none("drop_top", top(top(T, m, "t.x"), n, "t.x"))

    def test_no_rows(self):
        self.step("drop_top", top(T, 0, "t.x"), ("empty", ("t.id", "t.x", "t.y")))
        self.step("drop_top", top(top(U, 3), 0), NO_U)
        self.step("drop_top", top(read(T, ("t.x", "q")), 0), ("empty", ("q",)))
        # Both forms fit, and the second one is meant.
        self.step("drop_top", top(top(U, 0, "u.k"), 0), NO_U)

    def test_nearly(self):
        for tree in (top(T, 1), top(where(top(T, 1), TRUE), 2), where(top(T, 0), T1), T, read(top(top(T, 1), 2),
                                                                                              "t.x")):
            self.none("drop_top", tree)


class TestPairRules(StepCase):
    def test_swap(self):
        self.step("swap", pair(T, U), ("read", pair(U, T), (*T_ITEMS, ("u.k", "u.k"))))
        self.step("swap", pair(pair(U, V), W), read(pair(W, pair(U, V)), "u.k", "v.k", "w.k"))
        for tree in (T, ("union", U, U), ("minus", U, U), where(pair(T, U), T1)):
            self.none("swap", tree)

    def test_turns(self):
        self.step("turn_right", pair(pair(T, U), V), pair(T, pair(U, V)))
        self.step("turn_left", pair(T, pair(U, V)), pair(pair(T, U), V))
        self.step("turn_right", pair(pair(pair(T, U), V), W), pair(pair(T, U), pair(V, W)))
        self.step("turn_left", pair(T, pair(pair(U, V), W)), pair(pair(T, pair(U, V)), W))
        self.step("turn_right", pair(pair(T, U), pair(V, W)), pair(T, pair(U, pair(V, W))))
        self.step("turn_left", pair(pair(T, U), pair(V, W)), pair(pair(pair(T, U), V), W))
        for tree in (pair(T, U), T, pair(where(pair(T, U), T1), V), pair(T, where(pair(U, V), U1)), where(pair(T, U),
                                                                                                          T1),
                     ("union", pair(T, U), pair(T, U))):
            self.none("turn_right", tree)
            self.none("turn_left", tree)
        self.none("turn_right", pair(T, pair(U, V)))
        self.none("turn_left", pair(pair(T, U), V))


def leaf(at):
    return ("table", "u", f"l{at}")


def label(at):
    return f"l{at}.k"


def chain_of(count):
    tree = leaf(0)
    for at in range(1, count):
        tree = pair(tree, leaf(at))
    return tree


class TestBlocks(StepCase):
    def block(self, tree, leaves, conditions):
        self.assertCall(blocks, {"tree": tree}, (leaves, conditions))

    def test_one_leaf(self):
        for tree in (T, EMPTY, read(pair(T, U), "t.x"), ("group", where(T, T1), (), COUNT), ("union", pair(T, U),
                                                                                             pair(T, U)),
                     ("minus", where(T, T1), T), top(where(T, T1), 2)):
            self.block(tree, [tree], [])
            self.block(where(tree, T1), [tree], [T1])

    def test_leaves_and_conditions(self):
        self.block(pair(T, U), [T, U], [])
        self.block(where(pair(T, U), TU), [T, U], [TU])
        self.block(where(T, TRUE), [T], [])
        self.block(where(T, both(T1, both(TRUE, T2))), [T], [T1, T2])
        self.block(where(where(T, T2), T1), [T], [T2, T1])
        self.block(where(pair(where(T, T1), where(U, U1)), TU), [T, U], [T1, U1, TU])
        self.block(pair(where(pair(T, U), TU), where(pair(V, W), FREE)), [T, U, V, W], [TU, FREE])
        self.block(where(pair(where(where(T, both(T1, T1)), FALSE), pair(V, where(U, ("not", both(U1, U2))))), ("or",
                                                                                                                T1,
                                                                                                                U1)),
                   [T, V, U], [T1, T1, FALSE, ("not", both(U1, U2)), ("or", T1, U1)])
        self.block(pair(read(pair(T, U), "t.x"), top(where(V, TRUE), 1)), [read(pair(T, U), "t.x"), top(where(V, TRUE),
                                                                                                        1)], [])

    def test_many_leaves(self):
        self.block(chain_of(8), [leaf(at) for at in range(8)], [])


class TestArranged(StepCase):
    def arranged(self, tree, order, wanted, schema=SCHEMA):
        self.assertCall(arranged, {"schema": schema, "tree": tree, "order": order}, wanted)
        self.step("arrange", tree, wanted, order)

    def test_one_leaf(self):
        self.arranged(T, (0,), T)
        self.arranged(where(T, TRUE), (0,), T)
        self.arranged(where(T, both(TRUE, T1)), (0,), where(T, T1))
        self.arranged(where(where(T, T1), both(T2, T3)), (0,), where(T, T1, T2, T3))
        self.arranged(where(T, FREE), (0,), where(T, FREE))
        self.arranged(where(top(where(T, TRUE), 1), TRUE), (0,), top(where(T, TRUE), 1))
        self.arranged(EMPTY, (0,), EMPTY)

    def test_two_leaves(self):
        self.arranged(pair(T, U), (0, 1), pair(T, U))
        self.arranged(pair(T, U), (1, 0), ("read", pair(U, T), (*T_ITEMS, ("u.k", "u.k"))))
        tree = where(pair(T, U), TU, U1, T1, T2)
        self.arranged(tree, (0, 1), where(pair(where(T, T1, T2), where(U, U1)), TU))
        self.arranged(tree, (1, 0), ("read", where(pair(where(U, U1), where(T, T1, T2)), TU), (*T_ITEMS, ("u.k",
                                                                                                          "u.k"))))
        self.arranged(where(pair(T, U), ("or", T1, U1), TU), (0, 1), where(pair(T, U), ("or", T1, U1), TU))

    def test_conditions_without_labels(self):
        """They go to the leaf that comes first."""
        tree = where(pair(where(U, U1), V), FREE, compare("=", "v.k", 1), FALSE)
        v1 = compare("=", "v.k", 1)
        self.arranged(tree, (0, 1), pair(where(U, U1, FREE, FALSE), where(V, v1)))
        self.arranged(tree, (1, 0), read(pair(where(V, FREE, v1, FALSE), where(U, U1)), "u.k", "v.k"))

    def test_conditions_as_soon_as_their_columns_are_there(self):
        links = [compare("=", label(at), label(other)) for at, other in ((0, 1), (1, 2), (0, 2), (2, 3))]
        tree = where(chain_of(4), *links[::-1])
        self.arranged(tree, (0, 1, 2, 3), where(pair(where(pair(where(pair(leaf(0), leaf(1)), links[0]), leaf(2)),
                                                           links[2],
                                                          links[1]), leaf(3)), links[3]))
        self.arranged(tree, (3, 2, 0, 1), read(where(pair(where(pair(where(pair(leaf(3), leaf(2)), links[3]), leaf(0)),
                                                                links[2]),
                                                          leaf(1)), links[1], links[0]),
                                                          *[label(at) for at in range(4)]))
        self.arranged(tree, (3, 0, 1, 2), read(where(pair(where(pair(pair(leaf(3), leaf(0)), leaf(1)), links[0]),
                                                          leaf(2)),
                                                     links[3], links[2], links[1]), *[label(at) for at in range(4)]))

    def test_turned_pairs(self):
        self.arranged(pair(U, pair(V, W)), (0, 1, 2), pair(pair(U, V), W))
        self.arranged(pair(pair(U, V), W), (0, 1, 2), pair(pair(U, V), W))
        self.arranged(pair(U, pair(V, W)), (1, 2, 0), read(pair(pair(V, W), U), "u.k", "v.k", "w.k"))

    def test_five_and_six_leaves(self):
        five, six = chain_of(5), chain_of(6)
        self.arranged(five, (0, 1, 2, 3, 4), five)
        self.arranged(five, (4, 3, 2, 1, 0), read(pair(pair(pair(pair(leaf(4), leaf(3)), leaf(2)), leaf(1)), leaf(0)),
                                                  *[label(at) for at in range(5)]))
        for order in ((0, 1, 2, 3, 4, 5), (5, 4, 3, 2, 1, 0), (), (0, 1, 2, 3, 4)):
            self.no_order(six, order)

    def no_order(self, tree, order):
        self.assertFails(NoStep, {"rule": "arrange", "place": ()}, arranged, SCHEMA, tree, order)
        self.assertFails(NoStep, {"rule": "arrange", "place": ()}, arranged, order=order, tree=tree, schema=SCHEMA)
        self.none("arrange", tree, order)

    def test_no_permutation(self):
        for order in ((), (0,), (0, 1, 2), (0, 0), (1, 1), (0, 2), (1, 2), (0, 1, 1), (1000000, 0)):
            self.no_order(pair(T, U), order)
        for order in ((), (1,), (0, 1), (0, 0)):
            self.no_order(T, order)
            self.no_order(where(T, TRUE), order)
        self.no_order(chain_of(5), (0, 1, 2, 3))
        self.no_order(chain_of(3), (0, 2, 3))


class TestSteps(StepCase):
    def wrong(self, error, attributes, tree, step):
        before = copy.deepcopy((SCHEMA, tree, step))
        self.assertFails(error, attributes, take_step, SCHEMA, tree, step)
        self.assertFails(error, attributes, take_step, step=step, tree=tree, schema=SCHEMA)
        self.assertCall(applies, {"schema": SCHEMA, "tree": tree, "step": step}, False)
        self.assertSame((SCHEMA, tree, step), before)

    def test_no_place(self):
        tree = where(pair(T, U), TRUE)
        for place in ((1,), (0, 2), (0, 0, 0), (0, 1, 0), (7,), (1000000, 0), (0, 1, 1)):
            for rule, order in (("drop", ()), ("no_rule", ()), ("arrange", ()), ("arrange", (0, 1)), ("drop", (0,)),
                                ("", ())):
                self.wrong(NoPlace, {"place": place}, tree, (rule, place, order))

    def test_no_rule(self):
        tree = where(T, TRUE)
        for rule in ("", "no_rule", "Drop", "drop ", "where", "narrow", "sink", "true", "arranged"):
            for place in ((), (0,)):
                for order in ((), (0,)):
                    self.wrong(NoStep, {"rule": rule, "place": place}, tree, (rule, place, order))

    def test_an_order_for_another_rule(self):
        for rule, tree in (
            ("drop", where(T, TRUE)), ("stop", where(T, FALSE)), ("swap", pair(T, U)), ("drop_top", top(T, 0)),
            ("fold", where(T, FREE)), ("sink_left", where(pair(T, U), T1)), ("turn_left", pair(T, pair(U, V))),
        ):
            self.assertCall(applies, {"schema": SCHEMA, "tree": tree, "step": (rule, (), ())}, True)
            for order in ((0,), (0, 1), (1,), (5, 5)):
                self.wrong(NoStep, {"rule": rule, "place": ()}, tree, (rule, (), order))

    def test_places(self):
        tree = ("union", pair(where(T, TRUE), U), pair(T, where(U, TRUE)))
        self.assertSame(take_step(SCHEMA, tree, ("drop", (0, 0), ())), ("union", pair(T, U), tree[2]))
        self.assertSame(take_step(SCHEMA, tree, ("drop", (1, 1), ())), ("union", tree[1], pair(T, U)))
        self.wrong(NoStep, {"rule": "drop", "place": (1, 0)}, tree, ("drop", (1, 0), ()))
        self.wrong(NoStep, {"rule": "drop", "place": ()}, tree, ("drop", (), ()))

    def test_a_rule_that_does_not_apply(self):
        for rule in RULES[:18]:
            self.none(rule, T)
            self.none(rule, EMPTY)


class TestDrawn(StoreCase):
    """Each step that can be taken leaves the columns and, over drawn books, the answer as they are."""

    def test_steps(self):
        draw = random.Random(42)
        taken = dict.fromkeys(RULES, 0)
        for tree, columns in drawn.trees(draw, 700):
            books = [drawn.book(draw) for _ in range(2)]
            answers = [drawn.plain_answer(book, tree) for book in books]
            for place, rule in itertools.product(places(tree), RULES):
                orders = itertools.permutations(range(3)) if rule == "arrange" else [()]
                if rule == "arrange":
                    orders = [(0,), (1, 0), (2, 0, 1), (1, 3, 2, 0), (4, 2, 0, 3, 1)]
                for order in orders:
                    if applies(drawn.SCHEMA, tree, (rule, place, order)):
                        taken[rule] += 1
                        result = take_step(drawn.SCHEMA, tree, (rule, place, order))
                        self.assertSame(columns_of(drawn.SCHEMA, result), columns)
                        for book, wanted in zip(books, answers):
                            self.assertSame(answer(drawn.SCHEMA, book, result), wanted, (rule, place, order, tree))
        self.assertGreater(min(taken.values()), 10, taken)


if __name__ == "__main__":
    unittest.main()
