"""Points 16 to 19: conditions, their conjuncts, folding and intervals."""

import itertools
import random
import unittest

from storedesk.conditions import compared, conjoined, conjuncts, folded, holds, interval, labels_of, renamed
from storedesk.values import compare, read_value, same
from tests.support import StoreCase, exact

OPS = ("=", "!=", "<", "<=", ">", ">=")
TRUE = ("true",)
FALSE = ("false",)
VALUES = (None, False, True, -1, 0, 1, 2, "", "0", "a")


def col(label):
    return ("column", label)


def val(value):
    return ("value", value)


def cmp(op, left, right):
    return ("compare", op, left, right)


def eq(label, value):
    return cmp("=", col(label), val(value))


def left_chain(word, conditions):
    chain = conditions[0]
    for condition in conditions[1:]:
        chain = (word, chain, condition)
    return chain


A, B, C, D = eq("a", 1), eq("b", "x"), cmp("<", col("t.c"), col("a")), cmp("!=", val(None), col("d"))


class TestCompared(StoreCase):
    def test_all_ops_and_kinds(self):
        for left, right in itertools.product(range(len(VALUES)), repeat=2):
            wanted = {
                "=": left == right, "!=": left != right, "<": left < right, "<=": left <= right,
                ">": left > right, ">=": left >= right,
            }
            for op in OPS:
                self.assertSame(compared(op, VALUES[left], VALUES[right]), wanted[op],
                                (op, VALUES[left], VALUES[right]))

    def test_by_name(self):
        self.assertCall(compared, {"op": "<", "left": True, "right": 1}, True)
        self.assertCall(compared, {"op": "=", "left": 0, "right": False}, False)
        self.assertCall(compared, {"op": ">=", "left": "a", "right": 10 ** 30 - 1}, True)

    def test_large_numbers(self):
        large = read_value("8" * 1500)
        self.assertSame(compared("=", large, read_value("8" * 1500)), True)
        self.assertSame(compared("<", large, read_value("8" * 1499 + "9")), True)
        self.assertSame(compared(">", large, 10 ** 30 - 1), True)


class TestLabels(StoreCase):
    def test_labels(self):
        for condition, labels in (
            (TRUE, []), (FALSE, []), (A, ["a"]), (D, ["d"]), (C, ["t.c", "a"]),
            (cmp("=", col("a"), col("a")), ["a"]), (cmp("=", val("a"), val("b")), []),
            (("not", C), ["t.c", "a"]), (("and", A, C), ["a", "t.c"]), (("or", C, A), ["t.c", "a"]),
            (("and", ("or", B, A), ("not", ("and", C, ("or", B, D)))), ["b", "a", "t.c", "d"]),
            (("or", ("and", D, C), ("and", B, TRUE)), ["d", "t.c", "a", "b"]),
        ):
            self.assertCall(labels_of, {"condition": condition}, labels)


class TestHolds(StoreCase):
    COLUMNS = ("a", "b", "t.c", "d")

    def test_terms(self):
        row = (1, "x", True, None)
        for condition, wanted in (
            (TRUE, True), (FALSE, False), (A, True), (B, True), (C, True), (D, False), (eq("a", True), False),
            (eq("t.c", True), True), (eq("t.c", 1), False), (cmp("=", col("a"), col("t.c")), False),
            (cmp(">", col("a"), col("t.c")), True), (cmp("=", val(1), val(1)), True),
            (cmp("=", val(1), val(True)), False),
            (cmp("<", col("d"), val(False)), True), (cmp("<=", val("x"), col("b")), True),
            (cmp("<", col("b"), val("x")), False),
            (cmp("=", val("a"), col("b")), False), (cmp("=", val("a"), val("a")), True), (eq("b", "a"), False),
        ):
            self.assertCall(holds, {"condition": condition, "columns": self.COLUMNS, "row": row}, wanted)

    def test_words(self):
        for left, right in itertools.product((TRUE, FALSE, eq("a", 1), eq("a", 2)), repeat=2):
            first, second = left in (TRUE, eq("a", 1)), right in (TRUE, eq("a", 1))
            self.assertSame(holds(("and", left, right), ("a",), (1,)), first and second)
            self.assertSame(holds(("or", left, right), ("a",), (1,)), first or second)
            self.assertSame(holds(("not", left), ("a",), (1,)), not first)
            self.assertSame(holds(("not", ("and", left, right)), ("a",), (1,)), not (first and second))
            self.assertSame(holds(("and", ("not", left), right), ("a",), (1,)), not first and second)

    def test_no_columns(self):
        self.assertSame(holds(("not", FALSE), (), ()), True)
        self.assertSame(holds(cmp("<", val(None), val(0)), (), ()), True)

    def test_the_label_finds_its_column(self):
        columns = ("a", "t.a", "b", "t.b")
        for at, label in enumerate(columns):
            self.assertSame(holds(eq(label, at), columns, (0, 1, 2, 3)), True)
            self.assertSame(holds(cmp("!=", val(at), col(label)), columns, (0, 1, 2, 3)), False)


class TestConjuncts(StoreCase):
    def test_conjuncts(self):
        for condition, wanted in (
            (TRUE, []), (FALSE, [FALSE]), (A, [A]), (("not", A), [("not", A)]), (("or", A, B), [("or", A, B)]),
            (("not", ("and", A, B)), [("not", ("and", A, B))]), (("and", A, B), [A, B]), (("and", B, A), [B, A]),
            (("and", A, A), [A, A]), (("and", TRUE, A), [A]), (("and", A, TRUE), [A]), (("and", TRUE, TRUE), []),
            (("and", FALSE, TRUE), [FALSE]), (("and", ("and", A, B), C), [A, B, C]),
            (("and", A, ("and", B, C)), [A, B, C]),
            (("and", ("and", A, B), ("and", C, D)), [A, B, C, D]),
            (("or", ("and", A, B), C), [("or", ("and", A, B), C)]),
            (("and", ("or", A, B), ("and", ("not", TRUE), C)), [("or", A, B), ("not", TRUE), C]),
        ):
            self.assertCall(conjuncts, {"condition": condition}, wanted)

    def test_conjoined(self):
        for conditions, wanted in (
            ([], TRUE), ([A], A), ([TRUE], TRUE), ([A, B], ("and", A, B)), ([A, B, C], ("and", ("and", A, B), C)),
            ([A, B, C, D], ("and", ("and", ("and", A, B), C), D)), ([A, A], ("and", A, A)),
            ([A, TRUE, FALSE], ("and", ("and", A, TRUE), FALSE)),
            ([("and", A, B), ("and", C, D)], ("and", ("and", A, B), ("and", C, D))),
        ):
            self.assertCall(conjoined, {"conditions": conditions}, wanted)
            self.assertCall(conjoined, {"conditions": tuple(conditions)}, wanted)


class TestRenamed(StoreCase):
    def test_renamed(self):
        swap = {"a": "b", "b": "a"}
        for condition, names, wanted in (
            (TRUE, swap, TRUE), (FALSE, swap, FALSE), (A, {}, A), (A, swap, eq("b", 1)), (B, swap, eq("a", "x")),
            (cmp("<", col("a"), col("b")), swap, cmp("<", col("b"), col("a"))),
            (cmp("<", col("a"), col("b")), {"a": "b"}, cmp("<", col("b"), col("b"))),
            (("and", ("not", A), ("or", C, D)), {"a": "t.z", "d": "a", "x": "y"},
             ("and", ("not", eq("t.z", 1)), ("or", cmp("<", col("t.c"), col("t.z")), cmp("!=", val(None), col("a"))))),
            (cmp("=", val("a"), col("a")), swap, cmp("=", val("a"), col("b"))),
            (cmp("=", val("b"), val("a")), swap, cmp("=", val("b"), val("a"))),
            (("or", eq("t.c", True), eq("t.c", 1)), {"t.c": "c"}, ("or", eq("c", True), eq("c", 1))),
        ):
            self.assertCall(renamed, {"condition": condition, "names": names}, wanted)


FLIP = {"=": "=", "!=": "!=", "<": ">", "<=": ">=", ">": "<", ">=": "<="}
OPPOSITE = {"=": "!=", "!=": "=", "<": ">=", ">=": "<", ">": "<=", "<=": ">"}


def plainly_folded(condition):
    """Point 18, written down as it stands."""
    word = condition[0]
    if word == "compare":
        _, op, left, right = condition
        if left[0] == right[0] == "value":
            return TRUE if compared(op, left[1], right[1]) else FALSE
        if left[0] == right[0] == "column" and left[1] == right[1]:
            return TRUE if op in ("=", "<=", ">=") else FALSE
        if left[0] == "value":
            return cmp(FLIP[op], right, left)
        return condition
    if word == "not":
        part = condition[1]
        if part[0] == "true":
            return FALSE
        if part[0] == "false":
            return TRUE
        if part[0] == "compare":
            return plainly_folded(cmp(OPPOSITE[part[1]], part[2], part[3]))
        if part[0] == "not":
            return plainly_folded(part[1])
        other = {"and": "or", "or": "and"}[part[0]]
        return plainly_folded((other, ("not", part[1]), ("not", part[2])))
    if word in ("and", "or"):
        x, y = plainly_folded(condition[1]), plainly_folded(condition[2])
        ends, stays = (FALSE, TRUE) if word == "and" else (TRUE, FALSE)
        if exact(ends) in (exact(x), exact(y)):
            return ends
        if exact(x) == exact(stays):
            return y
        if exact(y) in (exact(stays), exact(x)):
            return x
        return (word, x, y)
    return condition


def nodes_in(condition):
    return 1 if condition[0] == "compare" else 1 + sum([nodes_in(part) for part in condition[1:]])


def random_condition(draw, depth, labels=("a", "b", "t.a")):
    words = ["compare"] * 3 + ["true", "false"]
    if depth > 0:
        words = words + ["not", "and", "or"] * 4
    word = draw.choice(words)
    if word == "compare":
        terms = [col(draw.choice(labels)) if draw.random() < 0.6 else val(draw.choice(VALUES)) for _ in range(2)]
        return cmp(draw.choice(OPS), *terms)
    parts = {"true": 0, "false": 0, "not": 1}.get(word, 2)
    return (word, *[random_condition(draw, depth - 1, labels) for _ in range(parts)])


class TestFolded(StoreCase):
    def check(self, condition, wanted):
        self.assertCall(folded, {"condition": condition}, wanted)

    def test_constants(self):
        self.check(TRUE, TRUE)
        self.check(FALSE, FALSE)
        self.check(("not", TRUE), FALSE)
        self.check(("not", FALSE), TRUE)

    def test_comparisons(self):
        for op in OPS:
            for left, right in itertools.product(VALUES, repeat=2):
                self.check(cmp(op, val(left), val(right)), TRUE if compared(op, left, right) else FALSE)
            self.check(cmp(op, col("a"), col("a")), TRUE if op in ("=", "<=", ">=") else FALSE)
            self.check(cmp(op, col("a"), col("t.a")), cmp(op, col("a"), col("t.a")))
            self.check(cmp(op, col("b"), col("a")), cmp(op, col("b"), col("a")))
            for value in (*VALUES, "b"):
                self.check(cmp(op, col("b"), val(value)), cmp(op, col("b"), val(value)))
                self.check(cmp(op, val(value), col("b")), cmp(FLIP[op], col("b"), val(value)))

    def test_not(self):
        for op in OPS:
            self.check(("not", cmp(op, col("a"), val(3))), cmp(OPPOSITE[op], col("a"), val(3)))
            self.check(("not", cmp(op, val(3), col("a"))), cmp(FLIP[OPPOSITE[op]], col("a"), val(3)))
            self.check(("not", cmp(op, col("a"), col("b"))), cmp(OPPOSITE[op], col("a"), col("b")))
            self.check(("not", cmp(op, col("a"), col("a"))), FALSE if op in ("=", "<=", ">=") else TRUE)
            self.check(("not", cmp(op, val(1), val(2))), FALSE if compared(op, 1, 2) else TRUE)
        self.check(("not", ("not", A)), A)
        self.check(("not", ("not", D)), cmp("!=", col("d"), val(None)))
        self.check(("not", ("not", ("not", A))), cmp("!=", col("a"), val(1)))
        self.check(("not", ("and", A, B)), ("or", cmp("!=", col("a"), val(1)), cmp("!=", col("b"), val("x"))))
        self.check(("not", ("or", A, B)), ("and", cmp("!=", col("a"), val(1)), cmp("!=", col("b"), val("x"))))
        self.check(("not", ("and", A, TRUE)), cmp("!=", col("a"), val(1)))
        self.check(("not", ("and", A, FALSE)), TRUE)
        self.check(("not", ("or", ("not", A), ("not", B))), ("and", A, B))
        self.check(("not", ("or", A, ("and", B, C))),
                   ("and", cmp("!=", col("a"), val(1)), ("or", cmp("!=", col("b"), val("x")),
                                                         cmp(">=", col("t.c"), col("a")))))

    def test_and_or(self):
        for word, ends, stays in (("and", FALSE, TRUE), ("or", TRUE, FALSE)):
            self.check((word, A, B), (word, A, B))
            self.check((word, B, A), (word, B, A))
            self.check((word, A, ends), ends)
            self.check((word, ends, A), ends)
            self.check((word, A, stays), A)
            self.check((word, stays, A), A)
            self.check((word, stays, stays), stays)
            self.check((word, ends, stays), ends)
            self.check((word, stays, ends), ends)
            self.check((word, ends, ends), ends)
            self.check((word, A, A), A)
            self.check((word, eq("a", 1), cmp("=", val(1), col("a"))), eq("a", 1))
            self.check((word, (word, A, B), B), (word, (word, A, B), B))
            self.check((word, (word, A, B), (word, A, B)), (word, A, B))
            self.check((word, (word, A, B), (word, B, A)), (word, (word, A, B), (word, B, A)))
            self.check((word, ("not", ends), A), A)
            self.check((word, A, cmp("=", val(1), val(True))), plainly_folded((word, A, FALSE)))

    def test_truths_are_no_numbers(self):
        for word in ("and", "or"):
            for one, other in ((True, 1), (1, True), (0, False), (False, 0)):
                self.check((word, eq("a", one), eq("a", other)), (word, eq("a", one), eq("a", other)))
                self.check((word, ("not", eq("a", one)), cmp("!=", val(other), col("a"))),
                           (word, cmp("!=", col("a"), val(one)), cmp("!=", col("a"), val(other))))

    def test_example(self):
        self.check(("not", cmp("<", val(3), col("a"))), cmp("<=", col("a"), val(3)))

    def test_eight_deep_with_24_nodes(self):
        parts = [eq("a", number) for number in range(8)]
        deep = ("not", ("and", parts[0], parts[1]))
        for number in range(2, 7):
            deep = (("and", "or")[number % 2], deep, ("not", parts[number]))
        deep = ("and", deep, ("not", ("or", parts[7], cmp("<=", val(9), col("a")))))
        self.assertSame((self.depth(deep), nodes_in(deep)), (8, 24))
        nots = A
        for _ in range(8):
            nots = ("not", nots)
        for condition in (deep, nots, left_chain("and", parts), ("not", left_chain("or", parts))):
            self.check(condition, plainly_folded(condition))
            self.assertSame(labels_of(condition), ["a"])
            self.assertSame(renamed(renamed(condition, {"a": "t.b"}), {"t.b": "a"}), condition)
            for number in range(10):
                self.assertSame(holds(folded(condition), ("a",), (number,)), holds(condition, ("a",), (number,)))
        self.assertSame([number for number in range(10) if holds(deep, ("a",), (number,))], [0, 1, 2, 3, 4, 5, 8])
        self.assertSame(conjuncts(left_chain("and", parts)), parts)
        self.assertSame(interval(left_chain("and", parts), "a"), ((7,), (0,)))

    def depth(self, condition):
        if condition[0] in ("compare", "true", "false"):
            return 0
        return 1 + max([self.depth(part) for part in condition[1:]])

    def test_random_conditions(self):
        draw = random.Random(18)
        for _ in range(1500):
            condition = random_condition(draw, 4)
            if nodes_in(condition) > 24:
                continue
            self.assertSame(folded(condition), plainly_folded(condition), condition)
            for _ in range(5):
                row = tuple([draw.choice(VALUES) for _ in range(3)])
                columns = ("a", "b", "t.a")
                self.assertSame(holds(folded(condition), columns, row), holds(condition, columns, row),
                                (condition, row))


class TestInterval(StoreCase):
    def check(self, condition, wanted, label="a"):
        self.assertCall(interval, {"condition": condition, "label": label}, wanted)

    def test_one_comparison(self):
        for value in (*VALUES, "b"):
            for op, low, high in (
                ("=", (value,), (value,)), ("!=", (), ()), ("<", (), (value,)), ("<=", (), (value,)),
                (">", (value,), ()), (">=", (value,), ()),
            ):
                self.check(cmp(op, col("a"), val(value)), (low, high))
                self.check(cmp(op, col("b"), val(value)), ((), ()))
                self.check(cmp(FLIP[op], val(value), col("a")), (low, high))
                self.check(cmp(FLIP[op], val(value), col("t.a")), ((), ()))
                self.check(cmp(FLIP[op], val(value), col("t.a")), (low, high), "t.a")

    def test_what_sets_no_limit(self):
        limit = cmp("<", col("a"), val(1))
        for condition in (
            TRUE, FALSE, ("not", limit), ("or", limit, limit), ("not", ("not", limit)), ("or", limit, FALSE),
            ("not", ("or", limit, limit)), cmp("<", col("a"), col("a")), cmp("=", col("a"), col("b")),
            cmp("=", val(1), val(2)), cmp("=", val("a"), val(1)), cmp("=", val(1), val("a")),
            cmp("<", col("b"), val("a")),
        ):
            self.check(condition, ((), ()))
            self.check(("and", condition, limit), ((), (1,)))

    def test_greatest_low_and_least_high(self):
        limits = [cmp(">", col("a"), val(2)), cmp(">=", val(9), col("a")), cmp(">=", col("a"), val(True)),
                  cmp("<", col("a"), val(10)), cmp("<", val(1), col("a")), cmp("<=", col("a"), val("x"))]
        for order in itertools.permutations(limits):
            self.check(conjoined(order), ((2,), (9,)))
        self.check(("and", limits[0], ("and", limits[3], ("and", limits[1], limits[4]))), ((2,), (9,)))

    def test_true_beside_1(self):
        for one, other in itertools.permutations((cmp(">=", col("a"), val(True)), cmp(">=", col("a"), val(1)))):
            self.check(("and", one, other), ((1,), ()))
        for one, other in itertools.permutations((cmp("<=", col("a"), val(False)), cmp("<=", col("a"), val(0)))):
            self.check(("and", one, other), ((), (False,)))

    def test_low_above_high(self):
        self.check(("and", cmp(">", col("a"), val(5)), cmp("<", col("a"), val(3))), ((5,), (3,)))
        self.check(("and", eq("a", 1), eq("a", 2)), ((2,), (1,)))
        self.check(("and", eq("a", "z"), eq("a", None)), (("z",), (None,)))

    def test_none_as_a_limit(self):
        self.check(cmp(">=", col("a"), val(None)), ((None,), ()))
        self.check(("and", cmp(">", col("a"), val(None)), cmp("<=", col("a"), val(None))), ((None,), (None,)))

    def test_the_condition_as_it_stands(self):
        self.check(("and", eq("a", 1), FALSE), ((1,), (1,)))
        self.check(("and", eq("a", 1), ("not", cmp(">=", col("a"), val(1)))), ((1,), (1,)))

    def test_example(self):
        self.check(("and", cmp(">", col("a"), val(2)), cmp(">=", val(9), col("a"))), ((2,), (9,)))

    def test_random_conditions(self):
        draw = random.Random(19)
        for _ in range(600):
            depths = [draw.choice((0, 0, 0, 1)) for _ in range(draw.randrange(1, 7))]
            parts = [random_condition(draw, depth, ("a", "a", "b")) for depth in depths]
            condition = parts[0]
            for part in parts[1:]:
                condition = ("and", condition, part) if draw.random() < 0.5 else ("and", part, condition)
            self.assertSame(interval(condition, "a"), plain_interval(condition, "a"), condition)


def plain_interval(condition, label):
    """Point 19, written down as it stands."""
    lows, highs = [], []
    for part in conjuncts(condition):
        if part[0] != "compare":
            continue
        _, op, left, right = part
        if left[0] == "value" and right[0] == "column":
            op, left, right = FLIP[op], right, left
        if left != col(label) or right[0] != "value":
            continue
        if op in ("=", ">", ">="):
            lows.append(right[1])
        if op in ("=", "<", "<="):
            highs.append(right[1])
    low = [value for value in lows if all([compare(value, other) >= 0 for other in lows])]
    high = [value for value in highs if all([compare(value, other) <= 0 for other in highs])]
    assert all([same(value, low[0]) for value in low])
    return tuple(low[:1]), tuple(high[:1])


if __name__ == "__main__":
    unittest.main()
