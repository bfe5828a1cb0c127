"""Points 42 to 44: chains of steps, and normal trees."""

import copy
import random
import unittest

from storedesk.answers import answer
from storedesk.errors import NoPlace, NoStep
from storedesk.rewriting import is_chain, is_normal, normal, normal_chain, run_chain, shrinking_steps
from storedesk.steps import SHRINKING, applies, take_step
from storedesk.trees import columns_of, places
from tests import drawn
from tests.support import StoreCase
from tests.test_steps import (COUNT, EMPTY, FALSE, FREE, NO_U, SCHEMA, T, T1, T2, T_ITEMS, TRUE, TU, U, U1, V, W, both,
                              compare,
                              pair, read, top, where)


class ChainCase(StoreCase):
    def steps(self, tree, *wanted):
        self.assertCall(shrinking_steps, {"schema": SCHEMA, "tree": tree}, [(rule, place, ()) for rule,
                                                                            place in wanted])
        self.assertCall(is_normal, {"schema": SCHEMA, "tree": tree}, len(wanted) == 0)

    def chain(self, tree, *wanted, end):
        chain = [(rule, place, ()) for rule, place in wanted]
        self.assertCall(normal_chain, {"schema": SCHEMA, "tree": tree}, chain)
        self.assertCall(normal, {"schema": SCHEMA, "tree": tree}, end)
        self.assertCall(run_chain, {"schema": SCHEMA, "tree": tree, "chain": chain}, end)
        self.assertCall(run_chain, {"schema": SCHEMA, "tree": tree, "chain": tuple(chain)}, end)
        self.assertCall(is_chain, {"schema": SCHEMA, "tree": tree, "chain": tuple(chain), "end": end}, True)
        self.steps(end)
        self.assertSame(normal_chain(SCHEMA, end), [])


NORMAL = (
    T, EMPTY, pair(T, U), where(T, T1), where(T, both(T1, T2)), where(pair(T, U), TU), ("union", T, T), top(T, 1),
    read(T, "t.x"),
    top(top(T, 3), 2), read(pair(T, U), *[label for label, _ in T_ITEMS[::-1]], "u.k"), ("group", EMPTY, (), COUNT),
    where(("group", T, (), COUNT), compare("=", "n", 1)), where(top(pair(T, U), 2), T1), pair(pair(T, U),
                                                                                                     pair(V, W)),
    where(top(where(T, T1), 2), T1), read(top(read(T, "t.x"), 1), ("t.x", "q")),
)


class TestShrinkingSteps(ChainCase):
    def test_none(self):
        for tree in NORMAL:
            self.steps(tree)

    def test_several_at_one_place(self):
        self.steps(where(where(T, T1), FREE), ("fold", ()), ("merge", ()))
        self.steps(where(pair(T, U), both(T1, U1)), ("sink_left", ()), ("sink_right", ()))
        self.steps(where(pair(T, U), FALSE), ("stop", ()), ("sink_left", ()), ("sink_right", ()))
        self.steps(where(where(EMPTY, FALSE), TRUE), ("drop", ()), ("merge", ()), ("stop", (0,)), ("hollow", (0,)))
        self.steps(read(pair(T, ("table", "t", "s")), "t.x", "s.x"), ("narrow_left", ()), ("narrow_right", ()))
        self.steps(read(read(T, *[label for label, _ in T_ITEMS]), *[label for label, _ in T_ITEMS]), ("join_reads",
                                                                                                       ()),
                   ("drop_read", ()), ("drop_read", (0,)))
        self.steps(top(EMPTY, 0), ("hollow", ()), ("drop_top", ()))

    def test_several_places(self):
        tree = ("union", pair(where(T, TRUE), where(U, TRUE)), where(pair(T, U), both(U1, TRUE)))
        self.steps(tree, ("drop", (0, 0)), ("drop", (0, 1)), ("fold", (1,)), ("sink_right", (1,)))
        self.steps(where(("minus", where(T, TRUE), top(top(T, 1), 1)), FALSE), ("stop", ()), ("sink_sides", ()),
                   ("drop", (0, 0)), ("drop_top", (0, 1)))
        self.steps(where(read(where(("group", T, ("t.x",), COUNT), both(TRUE, TRUE)), "t.x"), compare("<", 1, "t.x")),
                   ("fold", ()), ("sink_read", ()), ("fold", (0, 0)))

    def test_other_rules_are_no_shrinking_rules(self):
        self.assertTrue(applies(SCHEMA, pair(T, pair(U, V)), ("swap", (), ())))
        self.assertTrue(applies(SCHEMA, pair(T, pair(U, V)), ("turn_left", (), ())))
        self.steps(pair(T, pair(U, V)))


class TestNormalChain(ChainCase):
    def test_normal_already(self):
        for tree in NORMAL:
            self.chain(tree, end=tree)

    def test_the_first_place_and_its_first_rule(self):
        self.chain(where(where(pair(T, U), both(TRUE, T1)), U1), ("merge", ()), ("fold", ()), ("sink_left", ()),
                   ("sink_right", ()),
                   end=pair(where(T, T1), where(U, U1)))
        self.chain(where(where(EMPTY, FALSE), TRUE), ("drop", ()), ("stop", ()), end=EMPTY)
        self.chain(where(pair(T, U), FREE), ("fold", ()), ("stop", ()), end=("empty", ("t.id", "t.x", "t.y", "u.k")))
        self.chain(where(where(T, T1), FREE), ("fold", ()), ("stop", ()),
                   end=("empty", ("t.id", "t.x", "t.y")))
        self.chain(("union", pair(where(T, TRUE), U), top(top(pair(T, U), 1), 1)), ("drop", (0, 0)), ("drop_top", (1,)),
                   end=("union", pair(T, U), top(pair(T, U), 1)))

    def test_a_step_above_what_a_step_has_made(self):
        self.chain(pair(where(U, FALSE), T), ("stop", (0,)), ("hollow", ()), end=("empty", ("u.k", "t.id", "t.x",
                                                                                            "t.y")))
        self.chain(("union", U, top(U, 0)), ("drop_top", (1,)), ("hollow", ()), end=U)
        self.chain(("group", where(T, both(FALSE, T1)), (), COUNT), ("fold", (0,)), ("stop", (0,)),
                   end=("group", ("empty", ("t.id", "t.x", "t.y")), (), COUNT))
        self.chain(where(("minus", U, NO_U), U1), ("sink_sides", ()), ("hollow", (1,)), ("hollow", ()), end=where(U,
                                                                                                                  U1))
        self.chain(read(where(read(T, ("t.x", "a")), compare("=", "a", 1)), ("a", "b")), ("sink_read", (0,)),
                   ("join_reads", ()),
                   end=read(where(T, compare("=", "t.x", 1)), ("t.x", "b")))

    def test_reads(self):
        self.chain(read(read(pair(T, U), ("u.k", "a"), ("t.y", "b")), "b"), ("join_reads", ()), ("narrow_left", ()),
                   end=("read", pair(read(T, "t.y"), U), (("t.y", "b"),)))
        self.chain(read(pair(pair(T, U), V), "v.k"), ("narrow_left", ()), ("narrow_left", (0, 0)),
                   end=read(pair(read(pair(read(T, "t.id"), U), "t.id"), V), "v.k"))

    def test_sixteen_nodes_and_ten_deep(self):
        tree = T
        for _ in range(5):
            tree = where(read(tree, "t.id", ("t.x", "t.y"), ("t.y", "t.x")), T2)
        pairs = pair(tree[1], pair(pair(U, V), W))
        self.assertEqual((len(places(pairs)), max([len(place) for place in places(pairs)])), (16, 10))
        self.assertEqual((len(places(tree)), max([len(place) for place in places(tree)])), (11, 10))
        self.assert_normal_chain(tree)
        self.assert_normal_chain(pairs)
        unions = U
        for _ in range(5):
            unions = ("union", unions, where(U, both(U1, TRUE)))
        self.assert_normal_chain(where(("minus", U, U), compare(">", 1, "u.k")))
        self.assert_normal_chain(unions)
        self.assert_normal_chain(where(where(where(where(pair(where(read(pair(where(U, TRUE), V), "u.k", "v.k"), U1),
                                                             ("group", T, ("t.id",), COUNT)), T1), U1), TRUE),
                                                             compare("=", "n", 1)))

    def assert_normal_chain(self, tree):
        """Each step is the first that can be taken, and at the end there is none."""
        result, chain = tree, []
        steps = found_steps(SCHEMA, result)
        while steps:
            chain.append(steps[0])
            result = take_step(SCHEMA, result, steps[0])
            steps = found_steps(SCHEMA, result)
        self.assertCall(normal_chain, {"schema": SCHEMA, "tree": tree}, chain)
        self.assertCall(normal, {"schema": SCHEMA, "tree": tree}, result)
        self.assertSame(is_normal(SCHEMA, result), True)
        self.assertSame(is_normal(SCHEMA, tree), len(chain) == 0)


def found_steps(schema, tree):
    return [(rule, place, ()) for place in places(tree) for rule in SHRINKING if applies(schema, tree, (rule, place,
                                                                                                        ()))]


class TestRunChain(ChainCase):
    def wrong(self, error, attributes, tree, *chain):
        before = copy.deepcopy((tree, chain))
        for form in (list(chain), chain):
            self.assertFails(error, attributes, run_chain, SCHEMA, tree, form)
            self.assertFails(error, attributes, run_chain, chain=form, tree=tree, schema=SCHEMA)
            self.assertCall(is_chain, {"schema": SCHEMA, "tree": tree, "chain": form, "end": tree}, False)
            self.assertSame(is_chain(end=T, chain=form, tree=tree, schema=SCHEMA), False)
        self.assertSame((tree, chain), before)

    def test_the_empty_chain(self):
        for tree in NORMAL:
            for form in ([], ()):
                self.assertCall(run_chain, {"schema": SCHEMA, "tree": tree, "chain": form}, tree)
                self.assertCall(is_chain, {"schema": SCHEMA, "tree": tree, "chain": form, "end": tree}, True)
                self.assertCall(is_chain, {"schema": SCHEMA, "tree": tree, "chain": form, "end": top(tree, 1)}, False)

    def test_other_rules(self):
        turns = [("turn_left", (), ()), ("swap", (0,), ()), ("arrange", (), (1, 0)), ("arrange", (0,), (1, 0))]
        end = read(pair(V, read(pair(U, T), "u.k", "t.id", "t.x", "t.y")), "t.id", "t.x", "t.y", "u.k", "v.k")
        self.assertCall(run_chain, {"schema": SCHEMA, "tree": pair(T, pair(U, V)), "chain": turns[:1]}, pair(pair(T,
                                                                                                                  U),
                                                                                                                  V))
        swapped = pair(("read", pair(U, T), (*T_ITEMS, ("u.k", "u.k"))), V)
        self.assertCall(run_chain, {"schema": SCHEMA, "tree": pair(T, pair(U, V)), "chain": turns[:2]}, swapped)
        self.assertCall(run_chain, {"schema": SCHEMA, "tree": pair(T, pair(U, V)), "chain": turns[:3]},
                        ("read", pair(V, swapped[1]), (*T_ITEMS, ("u.k", "u.k"), ("v.k", "v.k"))))
        self.assertFails(NoStep, {"rule": "arrange", "place": (0,)}, run_chain, SCHEMA, end, [("arrange", (0,), (1, 0,
                                                                                                                 2))])
        self.assertSame(run_chain(SCHEMA, pair(U, V), [("swap", (), ()), ("swap", (0,), ())]),
                        read(read(pair(U, V), "v.k", "u.k"), "u.k", "v.k"))

    def test_the_first_step_that_cannot_be_taken(self):
        tree = where(pair(where(T, TRUE), U), TRUE)
        self.wrong(NoStep, {"rule": "merge", "place": ()}, tree, ("merge", (), ()))
        self.wrong(NoPlace, {"place": (0, 0, 0, 0)}, tree, ("drop", (0, 0, 0, 0), ()))
        self.wrong(NoStep, {"rule": "drop", "place": (0, 1)}, tree, ("drop", (0, 1), ()), ("drop", (3,), ()))
        self.wrong(NoPlace, {"place": (3,)}, tree, ("drop", (3,), ()), ("drop", (0, 1), ()))
        # After the first step the places are others.
        self.wrong(NoStep, {"rule": "drop", "place": (0, 0)}, tree, ("drop", (), ()), ("drop", (0, 0), ()))
        self.wrong(NoPlace, {"place": (0, 0, 0)}, tree, ("drop", (0, 0), ()), ("drop", (0, 0, 0), ()))
        self.wrong(NoPlace, {"place": (1, 0)}, tree, ("drop", (), ()), ("drop", (0,), ()), ("drop", (1, 0), ()),
                   ("none_such", (), ()))
        self.wrong(NoStep, {"rule": "drop", "place": (0,)}, tree, ("drop", (0, 0), ()), ("drop", (0,), ()))
        self.wrong(NoStep, {"rule": "arrange", "place": (0,)}, tree, ("drop", (), ()), ("arrange", (0,), ()), ("drop",
                                                                                                               (9,),
                                                                                                               ()))
        self.wrong(NoStep, {"rule": "drop", "place": ()}, tree, ("drop", (), (0,)))
        self.wrong(NoStep, {"rule": "none_such", "place": ()}, tree, ("drop", (), ()), ("none_such", (), ()), ("drop",
                                                                                                               (9,),
                                                                                                               ()))

    def test_is_chain(self):
        tree = where(pair(T, U), both(T1, U1))
        chain = [("sink_right", (), ()), ("sink_left", (), ())]
        end = pair(where(T, T1), where(U, U1))
        self.assertCall(is_chain, {"schema": SCHEMA, "tree": tree, "chain": chain, "end": end}, True)
        for other in (tree, pair(where(U, U1), where(T, T1)), pair(where(T, T1), U), T, ("table", "cows", "c"),
                      ("empty", ("a", "a"))):
            self.assertCall(is_chain, {"schema": SCHEMA, "tree": tree, "chain": chain, "end": other}, False)
        self.assertCall(is_chain, {"schema": SCHEMA, "tree": tree, "chain": chain[:1], "end": end}, False)
        self.assertCall(is_chain, {"schema": SCHEMA, "tree": tree, "chain": [*chain, ("drop", (), ())], "end": end},
                        False)

    def test_an_end_that_differs_in_true_and_one_only(self):
        for content, other in ((1, True), (True, 1), (0, False), (False, 0)):
            tree = where(T, compare("=", "t.x", content), TRUE)
            end, wrong = where(T, compare("=", "t.x", content)), where(T, compare("=", "t.x", other))
            self.assertCall(is_chain, {"schema": SCHEMA, "tree": tree, "chain": (("fold", (), ()),), "end": end}, True)
            self.assertCall(is_chain, {"schema": SCHEMA, "tree": tree, "chain": (("fold", (), ()),), "end": wrong},
                            False)
            self.assertCall(is_chain, {"schema": SCHEMA, "tree": end, "chain": (), "end": wrong}, False)

    def test_forty_steps(self):
        tree = pair(T, pair(U, V))
        turns = [("turn_left", (), ()), ("turn_right", (), ())] * 20
        self.assertSame(run_chain(SCHEMA, tree, turns), tree)
        self.assertSame(is_chain(SCHEMA, tree, turns, tree), True)
        self.assertSame(is_chain(SCHEMA, tree, turns[:39], tree), False)


class TestDrawn(StoreCase):
    def test_normal_trees(self):
        draw = random.Random(44)
        lengths = []
        for tree, columns in drawn.trees(draw, 400):
            self.assertSame(shrinking_steps(drawn.SCHEMA, tree), found_steps(drawn.SCHEMA, tree))
            result, chain = tree, []
            steps = found_steps(drawn.SCHEMA, result)
            self.assertSame(is_normal(drawn.SCHEMA, tree), not steps)
            while steps:
                chain.append(steps[0])
                result = take_step(drawn.SCHEMA, result, steps[0])
                steps = found_steps(drawn.SCHEMA, result)
            lengths.append(len(chain))
            self.assertSame(normal_chain(drawn.SCHEMA, tree), chain)
            self.assertSame(normal(drawn.SCHEMA, tree), result)
            self.assertSame(columns_of(drawn.SCHEMA, result), columns)
            book = drawn.book(draw)
            self.assertSame(answer(drawn.SCHEMA, book, result), drawn.plain_answer(book, tree))
        self.assertGreater(max(lengths), 10)


if __name__ == "__main__":
    unittest.main()
