"""Points 45 to 48: sizes, prices, best orders and optimizing."""

import copy
import itertools
import random
import unittest

from storedesk.answers import answer
from storedesk.books import counts_of
from storedesk.errors import TooMany
from storedesk.joins import best_order, optimize, price, size
from storedesk.rewriting import is_chain, is_normal, normal, normal_chain, run_chain
from storedesk.steps import applies, arranged, blocks, take_step
from storedesk.trees import places_up, subtree
from tests import drawn
from tests.support import StoreCase

NAMES = ("a", "b", "c", "d", "e", "f")
SCHEMA = tuple([(name, (("x", "any"), ("y", "any")), ("x",), (), ()) for name in NAMES])
COUNTS = {"a": 3, "b": 20, "c": 7, "d": 100, "e": 0, "f": 1}
A, B, C, D, E, F = [("table", name, name) for name in NAMES]
EMPTY = ("empty", ("q",))
TRUE = ("true",)
FALSE = ("false",)


def compare(op, left, right):
    terms = [("column", one) if isinstance(one, str) else ("value", one) for one in (left, right)]
    return ("compare", op, *terms)


EQUAL = compare("=", "a.x", 1)


def where(part, *conditions):
    joined = conditions[0]
    for condition in conditions[1:]:
        joined = ("and", joined, condition)
    return ("where", part, joined)


def pair(left, right):
    return ("pair", left, right)


def chain_of(*trees):
    joined = trees[0]
    for tree in trees[1:]:
        joined = pair(joined, tree)
    return joined


def read_a(part):
    return ("read", part, (("a.x", "a.x"),))


def top(part, n):
    return ("top", part, (), n)


class JoinCase(StoreCase):
    def sized(self, tree, wanted, cost, counts=None):
        for more in ({}, {"none_of_it": 9}):
            given = {**(COUNTS if counts is None else counts), **more}
            self.assertCall(size, {"counts": given, "tree": tree}, wanted)
            self.assertCall(price, {"counts": given, "tree": tree}, cost)


class TestSizes(JoinCase):
    def test_leaves(self):
        self.sized(A, 3, 3)
        self.sized(E, 0, 0)
        self.sized(EMPTY, 0, 0)
        self.sized(("table", "d", "x"), 100, 100)
        self.sized(A, 1000000, 1000000, {"a": 1000000})

    def test_pairs_and_sides(self):
        self.sized(pair(A, B), 60, 83)
        self.sized(pair(pair(A, B), C), 420, 420 + 83 + 7)
        self.sized(pair(A, E), 0, 3)
        self.sized(pair(A, EMPTY), 0, 3)
        self.sized(("union", A, A), 6, 12)
        self.sized(("union", A, where(A, EQUAL)), 4, 4 + 3 + 4)
        self.sized(("minus", A, A), 3, 9)
        self.sized(("minus", where(D, compare("=", "d.x", 1)), D), 10, 10 + 110 + 100)

    def test_reads_are_not_in_the_price(self):
        self.sized(read_a(A), 3, 3)
        self.sized(read_a(read_a(pair(A, B))), 60, 83)
        self.sized(pair(read_a(A), B), 60, 83)

    def test_tops_and_groups(self):
        self.sized(top(B, 7), 7, 27)
        self.sized(top(B, 20), 20, 40)
        self.sized(top(B, 1000000), 20, 40)
        self.sized(top(B, 0), 0, 20)
        count = (("count", None, "n"),)
        self.sized(("group", B, (), count), 1, 21)
        self.sized(("group", E, (), count), 1, 1)
        self.sized(("group", B, ("b.x",), count), 10, 30)
        self.sized(("group", A, ("a.x",), ()), 2, 5)
        self.sized(("group", A, ("a.x", "a.y"), count), 2, 5)
        self.sized(("group", F, ("f.x",), ()), 1, 2)
        self.sized(("group", E, ("e.x",), ()), 0, 0)

    def test_factors(self):
        for condition, factor in (
            (compare("=", "d.x", 1), 10), (compare("=", "d.x", "d.y"), 10), (compare("=", 1, 2), 10), (compare("=", 1,
                                                                                                               1), 10),
            (compare("!=", "d.x", 1), 1), (compare("!=", 1, 1), 1), (compare("<", "d.x", 1), 3), (compare("<=", 1,
                                                                                                          "d.x"), 3),
            (compare(">", "d.x", "d.y"), 3), (compare(">=", 1, 2), 3), (FALSE, 2), (("not", compare("=", "d.x", 1)), 2),
            (("not", TRUE), 2), (("or", compare("=", "d.x", 1), compare("=", "d.x", 2)), 2), (("or", TRUE, TRUE), 2),
            (TRUE, 1),
            (("and", TRUE, TRUE), 1), (("and", FALSE, FALSE), 4), (("and", compare("=", "d.x", 1), TRUE), 10),
            (("and", compare("=", "d.x", 1), compare("=", "d.x", 1)), 100),
            (("and", ("and", compare("<", "d.x", 1), FALSE), ("and", compare("!=", 1, 1), compare(">", "d.y", 1))), 18),
            (("not", ("and", compare("=", "d.x", 1), FALSE)), 2),
        ):
            for count in (0, 1, 2, 9, 10, 11, 17, 18, 19, 99, 100, 101, 1000000):
                wanted = -(-count // factor)
                self.sized(("where", D, condition), wanted, wanted + count, {"d": count})

    def test_rounding_up_at_each_node(self):
        third = compare("<", "b.x", 1)
        self.sized(where(B, third), 7, 27)
        self.sized(where(where(B, third), third), 3, 30)
        self.sized(where(B, third, third), 3, 23)
        self.sized(where(where(where(B, third), third), third), 1, 31)
        self.sized(("group", where(B, third), ("b.x",), ()), 4, 31)
        self.sized(pair(where(B, third), where(A, EQUAL)), 7, 7 + 27 + 4)

    def test_example(self):
        self.sized(where(pair(A, B), compare("=", "b.x", 1)), 6, 89)


class TestBestOrder(JoinCase):
    def best(self, tree, wanted, counts=None):
        self.assertCall(best_order, {"schema": SCHEMA, "counts": COUNTS if counts is None else counts, "tree": tree},
                        wanted)

    def test_example(self):
        self.best(where(pair(A, B), compare("=", "b.x", 1)), (0, 1))

    def test_one_leaf(self):
        for tree in (A, EMPTY, where(A, EQUAL), where(where(A, TRUE), FALSE), ("union", pair(A, B), pair(A, B)),
                     top(pair(A, B), 1)):
            self.best(tree, (0,))

    def test_orders_of_the_same_price(self):
        self.best(pair(B, A), (0, 1))
        self.best(pair(A, B), (0, 1))
        self.best(chain_of(A, B, C), (0, 2, 1))
        self.best(chain_of(B, A, C), (1, 2, 0))
        self.best(chain_of(C, A, B), (0, 1, 2))
        self.best(chain_of(A, C, A[:2] + ("z",)), (0, 2, 1))
        self.best(chain_of(D, E, B, A, C), (0, 1, 2, 3, 4))
        self.best(chain_of(E, E[:2] + ("z",), E[:2] + ("y",)), (0, 1, 2))

    def test_conditions(self):
        link = compare("=", "a.x", "d.x")
        # A and D give 30 rows, A and B give 60.
        self.best(where(chain_of(A, B, D), link), (0, 2, 1))
        # B and D give 2000 rows, of which 200 stay; ahead of A that is less than the 6000 of all three.
        self.best(where(chain_of(A, B, D), compare("=", "b.x", "d.x")), (1, 2, 0))
        self.best(where(chain_of(B, A, where(D, compare("=", "d.x", 1), compare("=", "d.y", 1))), compare("=", "b.x",
                                                                                                          1)), (0, 2,
                                                                                                                1))
        self.best(where(chain_of(D, C, B), compare("=", "d.x", 1), compare("=", "d.y", 1)), (0, 1, 2))
        # D and B first: 2000, 200, 1400 and 467 rows; C and B first: 140, 47, 4700 and 470.
        self.best(where(chain_of(D, C, B), compare("=", "d.x", "b.x"), compare("<", "c.x", "b.x")), (0, 2, 1))

    def test_five_leaves(self):
        links = [compare("=", f"{one}.x", f"{two}.x") for one, two in ("fd", "db", "bc", "ca")]
        tree = where(chain_of(A, B, C, D, F), *links)
        self.best(tree, brute_best(SCHEMA, COUNTS, tree))
        self.best(chain_of(D, B, C, A, F), brute_best(SCHEMA, COUNTS, chain_of(D, B, C, A, F)))

    def test_too_many(self):
        for count, tree in ((6, chain_of(A, B, C, D, E, F)), (6, where(pair(chain_of(A, B, C), where(chain_of(D, E, F),
                                                                                                     TRUE)), FALSE)),
                            (7, pair(A[:2] + ("z",), chain_of(A, B, C, D, E, F)))):
            before = copy.deepcopy(tree)
            self.assertFails(TooMany, {"count": count}, best_order, SCHEMA, COUNTS, tree)
            self.assertFails(TooMany, {"count": count}, best_order, tree=tree, counts=COUNTS, schema=SCHEMA)
            self.assertSame(tree, before)


def plain_size(counts, tree):
    word = tree[0]
    if word == "table":
        return counts[tree[1]]
    if word == "empty":
        return 0
    part = plain_size(counts, tree[1])
    if word == "pair":
        return part * plain_size(counts, tree[2])
    if word == "union":
        return part + plain_size(counts, tree[2])
    if word == "where":
        factor = 1
        for one in plain_conjuncts(tree[2]):
            factor *= 2 if one[0] != "compare" else {"=": 10, "!=": 1}.get(one[1], 3)
        return -(-part // factor)
    if word == "group":
        return -(-part // 2) if tree[2] else 1
    return min(part, tree[3]) if word == "top" else part


def plain_conjuncts(condition):
    if condition[0] == "and":
        return plain_conjuncts(condition[1]) + plain_conjuncts(condition[2])
    return [] if condition == TRUE else [condition]


def plain_price(counts, tree):
    return sum([plain_size(counts, node) for node in drawn.nodes_of(tree) if node[0] != "read"])


def brute_best(schema, counts, tree):
    orders = itertools.permutations(range(len(blocks(tree)[0])))
    return min(orders, key=lambda order: (plain_price(counts, arranged(schema, tree, order)), order))


def plain_optimize(schema, counts, tree):
    """Point 48 word by word, with other means than the program's."""
    chain = normal_chain(schema, tree)
    goal = normal(schema, tree)
    result = goal
    for place in places_up(goal):
        if not begins_block(goal, place) or not 2 <= len(blocks(subtree(goal, place))[0]) <= 5:
            continue
        order = brute_best(schema, counts, subtree(result, place))
        changed = take_step(schema, result, ("arrange", place, order))
        if plain_price(counts, changed) < plain_price(counts, result):
            chain.append(("arrange", place, order))
            result = changed
    return chain, result


def begins_block(tree, place):
    if subtree(tree, place)[0] not in ("where", "pair"):
        return False
    return place == () or subtree(tree, place[:-1])[0] not in ("where", "pair")


class TestOptimize(JoinCase):
    def optimized(self, tree, chain, end=None, counts=None):
        counts = COUNTS if counts is None else counts
        self.assertCall(optimize, {"schema": SCHEMA, "counts": counts, "tree": tree}, chain)
        if end is not None:
            self.assertTrue(is_chain(SCHEMA, tree, chain, end))

    def test_nothing_to_do(self):
        for tree in (A, EMPTY, pair(A, B), pair(B, A), where(A, EQUAL), chain_of(A, C, B), top(pair(B, A), 2)):
            self.assertTrue(is_normal(SCHEMA, tree))
            self.optimized(tree, [], tree)

    def test_the_normal_chain_comes_first(self):
        self.optimized(where(pair(A, B), EQUAL, TRUE), [("fold", (), ()), ("sink_left", (), ())], pair(where(A, EQUAL),
                                                                                                       B))
        tree = where(chain_of(B, C, A), compare("=", "b.x", 1), TRUE)
        chain = normal_chain(SCHEMA, tree)
        self.optimized(tree, [*chain, ("arrange", (), (0, 2, 1))])

    def test_arranging(self):
        self.optimized(chain_of(D, B, A), [("arrange", (), (1, 2, 0))],
                       ("read", chain_of(B, A, D), tuple([(f"{name}.{column}",
                                                           ) * 2 for name in "dba" for column in "xy"])))
        tree = where(chain_of(A, B, D), compare("=", "a.x", "d.x"))
        self.optimized(tree, [("arrange", (), (0, 2, 1))])
        self.optimized(tree, [], counts={**COUNTS, "d": 9, "b": 0})

    def test_the_same_price(self):
        """An arranged tree that differs, but is not cheaper, is not taken."""
        self.assertNotEqual(arranged(SCHEMA, pair(A, pair(E, B)), (0, 1, 2)), pair(A, pair(E, B)))
        self.optimized(pair(E, pair(A, B)), [("arrange", (), (0, 1, 2))])
        self.optimized(pair(E, pair(A, E[:2] + ("z",))), [], counts={**COUNTS, "a": 0})
        self.optimized(pair(F, pair(F[:2] + ("z",), F[:2] + ("y",))), [])
        self.optimized(pair(B, A), [])

    def test_leaves_of_a_block(self):
        six = chain_of(D, B, C, A, E, F)
        self.optimized(six, [], six)
        self.optimized(top(six, 1), [])
        five = chain_of(D, B, C, A, F)
        self.optimized(five, [("arrange", (), brute_best(SCHEMA, COUNTS, five))])
        group = ("group", chain_of(D, B, A), ("a.x",), ())
        whole = chain_of(group, B[:2] + ("z",), C, D, E, F)
        self.optimized(whole, [("arrange", (0, 0, 0, 0, 0, 0), (1, 2, 0))])

    def test_several_blocks_in_postorder(self):
        inner = ("group", chain_of(D, B, A), ("a.x",), ())
        other = ("group", chain_of(D, B, C), ("c.x",), ())
        tree = chain_of(D[:2] + ("z",), inner, other)
        cheap = [("arrange", (0, 1, 0), (1, 2, 0)), ("arrange", (1, 0), (1, 2, 0))]
        found = optimize(SCHEMA, COUNTS, tree)
        self.assertSame(found[:2], cheap)
        self.assertSame(found, plain_optimize(SCHEMA, COUNTS, tree)[0])
        sides = ("union", read_a(top(chain_of(D, B, A), 3)), read_a(top(chain_of(D, A, B), 3)))
        self.optimized(sides, [("arrange", (0, 0, 0), (1, 2, 0)), ("arrange", (1, 0, 0), (1, 2, 0))])

    def test_sizes_after_a_step_beneath(self):
        """Since sizes are rounded up at each node, a leaf that has been arranged may have another size than before."""
        counts = {"a": 11, "b": 1, "c": 28, "d": 5, "e": 9, "f": 4}
        leaves = [("table", name, f"l{at}") for at, name in enumerate("bcffb")]
        inner = where(chain_of(*leaves[:3]), compare("=", "l0.x", "l2.x"), compare("<", "l1.x", "l2.x"),
                      compare("<=", "l0.x", "l1.x"))
        tree = where(chain_of(("group", inner, ("l0.x", "l1.y"), ()), *leaves[3:]), compare("=", "l3.x", "l4.x"))
        self.optimized(tree, [("sink_left", (0, 0, 0, 0), ()), ("arrange", (0, 0, 0, 0), (0, 2, 1)),
                              ("arrange", (), (1, 2, 0))], counts=counts)
        counts = {"a": 2, "b": 2, "c": 19, "d": 29, "e": 22, "f": 15}
        leaves = [("table", name, f"l{at}") for at, name in enumerate("ffbaf")]
        inner = where(chain_of(*leaves[:3]), compare("<", "l0.x", "l2.x"), compare("=", "l0.x", "l1.y"))
        tree = chain_of(leaves[3], top(inner, 20), leaves[4])
        self.optimized(tree, [("sink_left", (0, 1, 0), ()), ("arrange", (0, 1, 0), (0, 2, 1))], counts=counts)

    def test_a_where_above_a_block(self):
        tree = where(top(where(chain_of(D, B, A), compare("=", "a.x", "d.x")), 3), EQUAL)
        found = optimize(SCHEMA, COUNTS, tree)
        self.assertSame(found, plain_optimize(SCHEMA, COUNTS, tree)[0])
        self.assertEqual([step[1] for step in found], [(0, 0)])


class TestDrawn(StoreCase):
    def test_sizes(self):
        draw = random.Random(45)
        for tree, _ in drawn.trees(draw, 400):
            counts = {name: draw.choice((0, 1, 2, 5, 19, 60)) for name in ("r", "s", "u")}
            self.assertSame(size(counts, tree), plain_size(counts, tree), tree)
            self.assertSame(price(counts, tree), plain_price(counts, tree), tree)

    def test_optimizing(self):
        draw = random.Random(48)
        arranging = 0
        for at in range(250):
            tree = drawn.trees(draw, 1)[0][0] if at % 2 else joined(draw)
            book = drawn.book(draw)
            counts = draw.choice((counts_of(book), {"r": 60, "s": 3, "u": 1}, {"r": 2, "s": 50, "u": 9}))
            chain, result = plain_optimize(drawn.SCHEMA, counts, tree)
            self.assertSame(optimize(drawn.SCHEMA, counts, tree), chain, tree)
            arranging += len(chain) - len(normal_chain(drawn.SCHEMA, tree))
            self.assertSame(run_chain(drawn.SCHEMA, tree, chain), result)
            self.assertSame(answer(drawn.SCHEMA, book, result), drawn.plain_answer(book, tree))
            self.assertTrue(applies(drawn.SCHEMA, tree, chain[0]) if chain else True)
        self.assertGreater(arranging, 30)


def joined(draw):
    """A tree of two to four tables in pairs, with conditions that link them."""
    while True:
        grower = drawn.Grower(draw)
        tree, columns = grower.leaf()
        for _ in range(draw.randrange(1, 4)):
            leaf, more = grower.leaf()
            tree, columns = (("pair", tree, leaf), columns + more) if draw.random() < 0.7 else (("pair", leaf, tree),
                                                                                                more + columns)
            if draw.random() < 0.4:
                tree = ("where", tree, drawn.condition(draw, columns, 2))
        if draw.random() < 0.3:
            tree = ("group", tree, columns[:1], ())
        if drawn.within_bounds(tree):
            return tree


if __name__ == "__main__":
    unittest.main()
