"""Points 23, 24 and 26 to 28: deltas."""

import itertools
import random
import unittest

from storedesk.books import dangling, empty_book, is_book, make_book, row_at, rows_of
from storedesk.deltas import apply_delta, combined, difference, inverse, tables_touched
from storedesk.errors import BadKind, BadWidth, CheckFailed, Dangling, Mismatch, NoTable
from tests.samples import BOOK, RING, SCHEMA, TRUTHS, ants, marks, zoo
from tests.support import StoreCase, exact

# Two tables whose order in the schema is not that of their names, with keys of all kinds and no references.
LOOSE = (
    ("t", (("k", "any"), ("x", "any")), ("k",), (), ()),
    ("s", (("x", "any"), ("k", "any"), ("l", "any")), ("k", "l"), (), ()),
)
KEYS = (None, False, True, -1, 0, 1, 2, "", "0", "a")


def applied(schema, book, *deltas):
    for delta in deltas:
        book = apply_delta(schema, book, delta)
    return book


class TestDifference(StoreCase):
    def check(self, schema, old, new, wanted):
        self.assertCall(difference, {"schema": schema, "old": old, "new": new}, wanted)
        self.assertSame(apply_delta(schema, old, wanted), new)

    def test_none(self):
        self.check((), (), (), ())
        self.check(SCHEMA, BOOK, BOOK, ())
        self.check(SCHEMA, BOOK, make_book(SCHEMA, BOOK), ())
        self.check(SCHEMA, empty_book(SCHEMA), empty_book(SCHEMA), ())

    def test_edits(self):
        old = (("t", ((1, "a"), (2, "b"), (3, "c"))), ("s", ()))
        new = (("t", ((1, "a"), (2, "x"), (4, "d"))), ("s", ((9, 1, 2),)))
        self.check(LOOSE, old, new, (
            ("s", (1, 2), None, (9, 1, 2)), ("t", (2,), (2, "b"), (2, "x")), ("t", (3,), (3, "c"), None),
            ("t", (4,), None, (4, "d")),
        ))
        self.check(LOOSE, new, old, (
            ("s", (1, 2), (9, 1, 2), None), ("t", (2,), (2, "x"), (2, "b")), ("t", (3,), None, (3, "c")),
            ("t", (4,), (4, "d"), None),
        ))

    def test_order_is_that_of_names_and_keys(self):
        rows = tuple([(key, 0) for key in KEYS])
        pairs = tuple([(0, key, other) for key in KEYS[:4] for other in KEYS[:5]])
        book = (("t", rows), ("s", pairs))
        wanted = [("s", row[1:], None, row) for row in pairs] + [("t", row[:1], None, row) for row in rows]
        self.check(LOOSE, empty_book(LOOSE), book, tuple(wanted))
        self.check(LOOSE, book, empty_book(LOOSE), tuple([(table, key, row, None) for table, key, _, row in wanted]))

    def test_truths_are_no_numbers(self):
        old = (("t", ((True, 1), (1, True))), ("s", ()))
        new = (("t", ((True, True), (1, 1))), ("s", ()))
        self.check(LOOSE, old, new, (("t", (True,), (True, 1), (True, True)), ("t", (1,), (1, True), (1, 1))))
        old = (("t", ((True, 0),)), ("s", ()))
        new = (("t", ((1, 0),)), ("s", ()))
        self.check(LOOSE, old, new, (("t", (True,), (True, 0), None), ("t", (1,), None, (1, 0))))
        old = (("t", ()), ("s", ((0, False, 1),)))
        new = (("t", ()), ("s", ((False, False, 1),)))
        self.check(LOOSE, old, new, (("s", (False, 1), (0, False, 1), (False, False, 1)),))

    def test_random_books(self):
        draw = random.Random(26)
        for _ in range(150):
            old, new = random_book(draw), random_book(draw)
            delta = difference(LOOSE, old, new)
            self.assertSame(delta, plain_difference(old, new))
            self.assertSame(apply_delta(LOOSE, old, delta), new)
            self.assertSame(apply_delta(LOOSE, new, inverse(delta)), old)


def random_book(draw):
    rows = {repr(key): (key, draw.choice(KEYS[:6])) for key in draw.sample(KEYS, draw.randrange(8))}
    pairs = {}
    for _ in range(draw.randrange(8)):
        key = (draw.choice(KEYS), draw.choice(KEYS))
        pairs[repr(key)] = (draw.choice(KEYS[:6]), *key)
    return make_book(LOOSE, [("t", list(rows.values())), ("s", list(pairs.values()))])


def plain_difference(old, new):
    edits = []
    for table, at in (("s", 1), ("t", 0)):
        keyed = [{repr(row[at:at + 1 + at]): row for row in rows_of(book, table)} for book in (old, new)]
        keys = [row[at:at + 1 + at] for row in [*rows_of(old, table), *rows_of(new, table)]]
        places = sorted({repr(key): key for key in keys}.values(), key=lambda key: [place_of(value) for value in key])
        for key in places:
            before, after = keyed[0].get(repr(key)), keyed[1].get(repr(key))
            if exact(before) != exact(after):
                edits.append((table, key, before, after))
    return tuple(edits)


def place_of(value):
    return [exact(known) for known in KEYS].index(exact(value))


class TestApply(StoreCase):
    def right(self, schema, book, delta, wanted):
        self.assertCall(apply_delta, {"schema": schema, "book": book, "delta": delta}, wanted)
        self.assertSame(apply_delta(schema, book, delta, references=True), wanted)
        self.assertSame(apply_delta(schema, book, delta, references=False), wanted)
        self.assertSame(is_book(schema, wanted), True)

    def wrong(self, error, attributes, schema, book, *delta):
        self.assertFails(error, attributes, apply_delta, schema, book, delta)
        self.assertFails(error, attributes, apply_delta, delta=delta, book=book, schema=schema, references=True)
        if error is not Dangling:
            self.assertFails(error, attributes, apply_delta, schema, book, delta, references=False)

    def test_nothing(self):
        self.right((), (), (), ())
        self.right(SCHEMA, BOOK, (), BOOK)
        self.right(SCHEMA, empty_book(SCHEMA), (), empty_book(SCHEMA))

    def test_edits(self):
        self.right(SCHEMA, BOOK, (("zoo", ("b",), ("b", "Rome"), ("b", None)),),
                   (zoo(("a", None), ("b", None)), *BOOK[1:]))
        self.right(SCHEMA, BOOK, (("zoo", ("ab",), None, ("ab", None)),),
                   (zoo(("a", None), ("ab", None), ("b", "Rome")), *BOOK[1:]))
        self.right(SCHEMA, BOOK, (("ants", (3,), (3, None, 3, 7), None),), (BOOK[0], ants(*BOOK[1][1][:2]), BOOK[2]))

    def test_edits_of_several_tables(self):
        delta = (
            ("ants", (1,), (1, "a", None, 5), (1, "c", 2, 5)), ("ants", (3,), (3, None, 3, 7), None),
            ("ants", (9,), None, (9, "c", 9, 9)),
            ("marks", (1, 0), None, (0, 1, 1, 1)), ("marks", (2, 0), (0, 2, 1, 1), None),
            ("marks", (3, 3), None, (3, 3, 1, 0)),
            ("zoo", (None,), None, (None, "x")), ("zoo", ("a",), ("a", None), None),
            ("zoo", ("c",), None, ("c", "Oslo")),
        )
        wanted = (
            zoo((None, "x"), ("b", "Rome"), ("c", "Oslo")), ants((1, "c", 2, 5), (2, "b", 1, 6), (9, "c", 9, 9)),
            marks((0, 1, 1, 1), (1, 1, None, 9), (2, 1, 1, 2), (3, 3, 1, 0)),
        )
        self.right(SCHEMA, BOOK, delta, wanted)
        self.right(SCHEMA, wanted, inverse(delta), BOOK)

    def test_rows_stand_by_key(self):
        rows = tuple([(key, 0) for key in KEYS])
        for left_out in range(len(rows)):
            book = (("t", rows[:left_out] + rows[left_out + 1:]), ("s", ()))
            self.right(LOOSE, book, (("t", rows[left_out][:1], None, rows[left_out]),), (("t", rows), ("s", ())))
        book = (("t", ()), ("s", ((1, 1, 2),)))
        self.right(LOOSE, book, (("s", (1, 1), None, (9, 1, 1)), ("s", (2, 0), None, (0, 2, 0))),
                   (("t", ()), ("s", ((9, 1, 1), (1, 1, 2), (0, 2, 0)))))

    def test_references_over_the_book_that_results(self):
        ring = (("p", ((1, 1),)), ("q", ((1, 1),)))
        self.right(RING, empty_book(RING), (("p", (1,), None, (1, 1)), ("q", (1,), None, (1, 1))), ring)
        self.right(RING, ring, (("p", (1,), (1, 1), None), ("q", (1,), (1, 1), None)), empty_book(RING))
        self.right(TRUTHS, (("t", ()),), (("t", (1,), None, (1, 1)),), (("t", ((1, 1),)),))
        self.right(TRUTHS, (("t", ((1, 1),)),), (("t", (1,), (1, 1), None),), (("t", ()),))

    def test_no_table(self):
        self.wrong(NoTable, {"table": "fish"}, SCHEMA, BOOK, ("fish", (1,), None, (1,)))
        self.wrong(NoTable, {"table": "cows"}, SCHEMA, BOOK, ("cows", (1,), (1,), None), ("fish", (1,), None, (1,)))
        self.wrong(NoTable, {"table": "fish"}, SCHEMA, BOOK, ("ants", (1,), None, (1,)), ("fish", (1,), None, (1,)))
        self.wrong(NoTable, {"table": "ants"}, (), (), ("ants", (1,), None, (1, "a", None, 5)))

    def test_rows_that_do_not_fit(self):
        for row in ((), (1,), (1, "a", None), (1, "a", None, 5, 5)):
            self.wrong(BadWidth, {"table": "ants", "row": row}, SCHEMA, BOOK, ("ants", (1,), None, row))
            self.wrong(BadWidth, {"table": "ants", "row": row}, SCHEMA, BOOK, ("ants", (1,), (1, "a", None, 5), row),
                       ("zoo", (0,), None, ()))
        self.wrong(BadWidth, {"table": "zoo", "row": ()}, SCHEMA, BOOK, ("ants", (1,), None, ("", 1, 1, 1)),
                   ("zoo", (0,), None, ()))
        self.wrong(BadKind, {"table": "ants", "column": "queen"}, SCHEMA, BOOK,
                   ("ants", (1,), None, (1, 1, True, True)))
        self.wrong(BadKind, {"table": "ants", "column": "size"}, SCHEMA, BOOK, ("ants", (1,), None, (1, 1, 1, None)),
                   ("zoo", ("a",), None, ("a", 1)))
        self.wrong(BadKind, {"table": "zoo", "column": "city"}, SCHEMA, BOOK, ("ants", (1,), None, (1, 1, 1, 0)),
                   ("zoo", ("a",), None, ("a", 1)))
        self.wrong(CheckFailed, {"table": "ants", "check": 1}, SCHEMA, BOOK, ("ants", (1,), None, (1, 1, 1, 100)),
                   ("ants", (2,), None, (2, 1, 1, 0)))
        self.wrong(CheckFailed, {"table": "ants", "check": 0}, SCHEMA, BOOK, ("ants", (1,), None, (1, 1, 1, 0)),
                   ("ants", (2,), None, (2, 1, 1, 100)))

    def test_order_is_that_of_the_edits(self):
        """Not that of the schema, in which zoo stands before ants."""
        self.wrong(BadWidth, {"table": "ants", "row": ()}, SCHEMA, BOOK, ("ants", (1,), None, ()),
                   ("zoo", (1,), None, ()))
        self.wrong(BadKind, {"table": "ants", "column": "id"}, SCHEMA, BOOK, ("ants", (1,), None, ("", 1, 1, 1)),
                   ("zoo", (1,), None, (1, 1)))
        self.wrong(Mismatch, {"table": "ants", "key": (1,)}, SCHEMA, BOOK, ("ants", (1,), None, (1, 1, 1, 1)),
                   ("zoo", ("a",), None, ("a", None)))

    def test_mismatch(self):
        for key, before, after in (
            ((1,), None, (1, "a", None, 5)), ((1,), (1, "a", None, 6), None),
            ((1,), (1, "a", None, 6), (1, "a", None, 5)),
            ((4,), (4, "a", None, 5), None), ((4,), (4, "a", None, 5), (4, "a", None, 6)),
            ((2,), (2, "b", None, 6), None),
        ):
            self.wrong(Mismatch, {"table": "ants", "key": key}, SCHEMA, BOOK, ("ants", key, before, after))
            self.wrong(Mismatch, {"table": "ants", "key": key}, SCHEMA, BOOK, ("ants", key, before, after),
                       ("zoo", ("a",), ("a", "x"), None))
            self.wrong(Mismatch, {"table": "ants", "key": key}, SCHEMA, BOOK, ("ants", (0,), None, (0, None, None, 1)),
                       ("ants", key, before, after))

    def test_truths_are_no_numbers(self):
        book = (("t", ((True, 1),)), ("s", ()))
        self.wrong(Mismatch, {"table": "t", "key": (1,)}, LOOSE, book, ("t", (1,), (1, 1), None))
        self.wrong(Mismatch, {"table": "t", "key": (True,)}, LOOSE, book, ("t", (True,), (True, True), None))
        self.wrong(Mismatch, {"table": "t", "key": (True,)}, LOOSE, book, ("t", (True,), None, (True, True)))
        self.right(LOOSE, book, (("t", (1,), None, (1, 1)),), (("t", ((True, 1), (1, 1))), ("s", ())))
        self.right(LOOSE, book, (("t", (True,), (True, 1), (True, True)), ("t", (1,), None, (1, 1))),
                   (("t", ((True, True), (1, 1))), ("s", ())))
        self.wrong(Dangling, {"table": "t", "reference": 0, "key": (1,)}, TRUTHS, (("t", ()),),
                   ("t", (1,), None, (1, True)))

    def test_dangling(self):
        self.wrong(Dangling, {"table": "ants", "reference": 0, "key": (1,)}, SCHEMA, BOOK,
                   ("zoo", ("a",), ("a", None), None))
        self.wrong(Dangling, {"table": "ants", "reference": 1, "key": (2,)}, SCHEMA, BOOK,
                   ("ants", (1,), (1, "a", None, 5), None))
        self.wrong(Dangling, {"table": "ants", "reference": 0, "key": (2,)}, SCHEMA, BOOK,
                   ("ants", (1,), (1, "a", None, 5), None), ("zoo", ("b",), ("b", "Rome"), None))
        self.wrong(Dangling, {"table": "ants", "reference": 1, "key": (3,)}, SCHEMA, BOOK,
                   ("ants", (3,), (3, None, 3, 7), (3, None, 4, 7)), ("marks", (1, 1), (1, 1, None, 9), (1, 1, 8, 9)))
        self.wrong(Dangling, {"table": "marks", "reference": 0, "key": (1, 1)}, SCHEMA, BOOK,
                   ("marks", (1, 1), (1, 1, None, 9), (1, 1, 8, 9)))
        self.wrong(Dangling, {"table": "q", "reference": 0, "key": (1,)}, (RING[1], RING[0]), (("q", ()), ("p", ())),
                   ("p", (1,), None, (1, 7)), ("q", (1,), None, (1, 7)))

    def test_dangling_before_the_delta(self):
        broken = apply_delta(SCHEMA, BOOK, (("zoo", ("b",), ("b", "Rome"), None),), references=False)
        self.wrong(Dangling, {"table": "ants", "reference": 0, "key": (2,)}, SCHEMA, broken)
        self.wrong(Dangling, {"table": "ants", "reference": 0, "key": (2,)}, SCHEMA, broken,
                   ("ants", (3,), (3, None, 3, 7), (3, None, 4, 7)))
        self.wrong(Dangling, {"table": "ants", "reference": 0, "key": (0,)}, SCHEMA, broken,
                   ("ants", (0,), None, (0, "x", None, 7)))
        self.assertSame(apply_delta(SCHEMA, broken, (), references=False), broken)
        self.right(SCHEMA, broken, (("zoo", ("b",), None, ("b", "Rome")),), BOOK)

    def test_without_references(self):
        delta = (("ants", (1,), (1, "a", None, 5), None), ("ants", (4,), None, (4, "x", 1, 1)),
                 ("zoo", ("b",), ("b", "Rome"), None))
        broken = apply_delta(SCHEMA, BOOK, delta, references=False)
        wanted = (zoo(("a", None)), ants((2, "b", 1, 6), (3, None, 3, 7), (4, "x", 1, 1)), BOOK[2])
        self.assertSame(broken, wanted)
        self.assertSame(dangling(SCHEMA, broken), [("ants", 0, (2,)), ("ants", 1, (2,)), ("ants", 0, (4,)),
                                                   ("ants", 1, (4,))])
        self.assertSame(rows_of(broken, "zoo"), [("a", None)])
        self.assertSame(row_at(SCHEMA, broken, "ants", (4,)), (4, "x", 1, 1))
        self.assertSame(row_at(SCHEMA, broken, "ants", (1,)), None)
        self.assertSame(apply_delta(SCHEMA, broken, inverse(delta)), BOOK)
        self.assertFails(Mismatch, {"table": "ants", "key": (1,)}, apply_delta, SCHEMA, broken, delta, references=False)

    def test_references_by_name_only(self):
        with self.assertRaises(TypeError):
            apply_delta(SCHEMA, BOOK, (), False)

    def test_several_errors(self):
        """Of all the errors that are due, the one with the least number in point 6 is raised."""
        steps = [
            (("zoos", (1,), None, (1,)), NoTable, {"table": "zoos"}),
            (("zoo", (1,), None, (1,)), BadWidth, {"table": "zoo", "row": (1,)}),
            (("marks", (1, 0), None, (0, 1, None)), BadWidth, {"table": "marks", "row": (0, 1, None)}),
            (("ants", (7,), None, (7, None, "", 1)), BadKind, {"table": "ants", "column": "queen"}),
            (("ants", (6,), None, (6, None, None, 0)), CheckFailed, {"table": "ants", "check": 0}),
            (("ants", (5,), (5, None, None, 1), None), Mismatch, {"table": "ants", "key": (5,)}),
            (("ants", (4,), None, (4, "none", None, 1)), Dangling, {"table": "ants", "reference": 0, "key": (4,)}),
        ]
        for at, (_, error, attributes) in enumerate(steps):
            if error is BadWidth and at == 1:
                error, attributes = steps[2][1:]
            delta = sorted([edit for edit, _, _ in steps[at:]], key=lambda edit: edit[:2])
            self.wrong(error, attributes, SCHEMA, BOOK, *delta)

    def test_the_key_of_a_row_that_does_not_fit(self):
        self.wrong(BadWidth, {"table": "marks", "row": (5,)}, SCHEMA, BOOK, ("marks", (5, 5), None, (5,)))
        self.wrong(BadKind, {"table": "ants", "column": "id"}, SCHEMA, BOOK, ("ants", (1,), None, ("a", None, None, 1)))


class TestInverse(StoreCase):
    def test_inverse(self):
        self.assertCall(inverse, {"delta": ()}, ())
        self.assertCall(
            inverse, {"delta": (("a", (1,), None, (1, True)), ("a", (2,), (2, 1), None),
                                ("b", (3, 0), (3, 0, 1), (3, 0, True)))},
            (("a", (1,), (1, True), None), ("a", (2,), None, (2, 1)), ("b", (3, 0), (3, 0, True), (3, 0, 1))),
        )


class TestCombined(StoreCase):
    def check(self, deltas, wanted):
        self.assertSame(combined(*deltas), wanted)
        self.assertSame(combined(*deltas), wanted)

    def wrong(self, table, key, *deltas):
        self.assertFails(Mismatch, {"table": table, "key": key}, combined, *deltas)

    def test_few(self):
        one = (("t", (1,), None, (1, 1)), ("t", (2,), (2, 2), None))
        self.check([], ())
        self.check([()], ())
        self.check([(), (), ()], ())
        self.check([one], one)
        self.check([(), one, ()], one)

    def test_one_after_another(self):
        none, a, b, c = None, (1, "a"), (1, "b"), (1, "c")
        for path in ((none, a, b), (none, a, b, c), (a, b, c), (a, b, none), (a, none, b), (a, b, none, c),
                     (none, a, none, b), (c, a, none)):
            deltas = [(("t", (1,), before, after),) for before, after in zip(path, path[1:])]
            self.check(deltas, (("t", (1,), path[0], path[-1]),))

    def test_left_out(self):
        none, a, b = None, (1, "a"), (1, "b")
        for path in ((none, a, none), (a, none, a), (a, b, a), (none, a, b, none), (none, a, none, b, none),
                     (a, b, none, a)):
            deltas = [(("t", (1,), before, after),) for before, after in zip(path, path[1:])]
            self.check(deltas, ())
            beside = ("t", (0,), None, (0, 0))
            self.check([(beside, *deltas[0]), *deltas[1:]], (beside,))

    def test_order(self):
        edits = [("s", (0, 1), None, (0, 0, 1)), ("s", (1, 0), None, (0, 1, 0)), ("t", (None,), None, (None, 0)),
                 ("t", (True,), None, (True, 0)),
                 ("t", (0,), None, (0, 0)), ("t", (1,), None, (1, 0)), ("t", ("",), None, ("", 0)),
                 ("u", (-1,), None, (-1, 0))]
        for order in (edits, edits[::-1], edits[3:] + edits[:3], edits[::2] + edits[1::2]):
            self.check([(edit,) for edit in order], tuple(edits))
        self.check([tuple(edits[1::2]), tuple(edits[::2])], tuple(edits))

    def test_truths_are_no_numbers(self):
        self.check([(("t", (1,), None, (1, 1)),), (("t", (True,), None, (True, 1)),)],
                   (("t", (True,), None, (True, 1)), ("t", (1,), None, (1, 1))))
        self.check([(("t", (0,), (0, 1), None),), (("t", (0,), None, (0, True)),)], (("t", (0,), (0, 1), (0, True)),))
        self.wrong("t", (0,), (("t", (0,), None, (0, 1)),), (("t", (0,), (0, True), None),))
        self.check([(("t", (0,), (0, True), (0, 1)),), (("t", (0,), (0, 1), (0, True)),)], ())

    def test_the_same_key_in_two_tables(self):
        self.check([(("s", (1,), None, (1, 0)),), (("t", (1,), None, (1, 0)),)],
                   (("s", (1,), None, (1, 0)), ("t", (1,), None, (1, 0))))

    def test_mismatch(self):
        a, b = (1, "a"), (1, "b")
        for first, second in (((None, a), (None, b)), ((None, a), (b, None)), ((a, None), (a, b)), ((a, None), (b, a)),
                              ((a, b), (a, None)), ((a, b), (None, a))):
            self.wrong("t", (1,), (("t", (1,), *first),), (("t", (1,), *second),))
            self.wrong("t", (1,), (("t", (1,), *first),), (), (("s", (1,), *first),), (("t", (1,), *second),))

    def test_mismatch_with_an_edit_that_is_left_out(self):
        a, b = (1, "a"), (1, "b")
        there_and_back = [(("t", (1,), None, a),), (("t", (1,), a, None),)]
        self.check([*there_and_back, (("t", (1,), None, b),)], (("t", (1,), None, b),))
        self.wrong("t", (1,), *there_and_back, (("t", (1,), a, b),))
        back_and_there = [(("t", (1,), a, b),), (("t", (1,), b, a),)]
        self.check([*back_and_there, (("t", (1,), a, None),)], (("t", (1,), a, None),))
        self.wrong("t", (1,), *back_and_there, (("t", (1,), b, None),))

    def test_first_mismatch(self):
        def put(*keys):
            return tuple([("t", (key,), None, (key, 0)) for key in keys])
        self.wrong("t", (2,), put(1, 2, 3), put(2, 3))
        self.wrong("t", (3,), put(1, 2, 3), put(3, 4), put(1))
        self.wrong("t", (5,), put(1), put(5), put(0, 5), put(1))
        self.wrong("t", (1,), put(1), put(0, 1), put(0))

    def test_random_chains(self):
        draw = random.Random(28)
        for _ in range(60):
            books = [random_book(draw) for _ in range(draw.randrange(1, 6))]
            deltas = [difference(LOOSE, old, new) for old, new in zip(books, books[1:])]
            self.check(deltas, difference(LOOSE, books[0], books[-1]))
            self.assertSame(applied(LOOSE, books[0], *deltas), books[-1])
            self.check([*deltas, *[inverse(delta) for delta in reversed(deltas)]], ())


class TestTablesTouched(StoreCase):
    def test_tables(self):
        self.assertCall(tables_touched, {"delta": ()}, [])
        self.assertCall(tables_touched, {"delta": (("b", (1,), None, (1,)), ("b", (2,), (2,), None))}, ["b"])
        edits = (("a", (1,), None, (1,)), ("b", (1,), None, (1,)), ("b", (2,), None, (2,)), ("c_1", (0,), (0,), None))
        self.assertCall(tables_touched, {"delta": edits}, ["a", "b", "c_1"])
        for size in range(1, 4):
            for names in itertools.combinations(["a", "ab", "b", "b1"], size):
                self.assertSame(tables_touched(tuple([(name, (1,), None, (1,)) for name in names])), list(names))


if __name__ == "__main__":
    unittest.main()
