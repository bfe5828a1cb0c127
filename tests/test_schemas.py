"""Points 14 and 20 to 23: kinds of columns, schemas, and rows that fit their table."""

import itertools
import unittest

from storedesk.errors import BadKind, BadSchema, BadWidth, CheckFailed, NoTable
from storedesk.schemas import check_rows, check_schema, column_names, definition_of, fits, key_of
from storedesk.values import RESERVED, read_value
from tests.support import StoreCase

KINDS = ("truth", "number", "text", "truth?", "number?", "text?", "any")
POSITIVE = ("compare", ">", ("column", "qty"), ("value", 0))
ORDERS = (
    "orders",
    (("id", "number"), ("who", "text"), ("qty", "number?"), ("paid", "truth")),
    ("id",),
    ((("who",), "people"), (("who",), "people")),
    (POSITIVE, ("or", ("compare", "=", ("column", "paid"), ("value", True)),
                ("compare", "<", ("column", "id"), ("column", "qty")))),
)
PEOPLE = ("people", (("name", "text"), ("boss", "text?")), ("name",), ((("boss",), "people"),), ())
PAIRS = ("pairs", (("x", "any"), ("y", "any")), ("y", "x"), ((("x", "x"), "pairs"),), ())
SCHEMA = (ORDERS, PEOPLE, PAIRS)


def table(name="t", columns=(("a", "any"), ("b", "number")), key=("a",), references=(), checks=()):
    return (name, columns, key, references, checks)


def check_on(label):
    return ("compare", "=", ("column", label), ("value", 1))


class TestFits(StoreCase):
    def test_all_kinds(self):
        values = {
            "none": (None,), "truth": (True, False), "number": (0, 1, -1, 10 ** 30 - 1, read_value("9" * 1500)),
            "text": ("", "a", "none", "1", "true"),
        }
        for kind in KINDS:
            for own, things in values.items():
                wanted = kind == "any" or kind.strip("?") == own or (own == "none" and kind.endswith("?"))
                for value in things:
                    self.assertCall(fits, {"kind": kind, "value": value}, wanted)


class TestCheckSchema(StoreCase):
    def right(self, *schema):
        self.assertCall(check_schema, {"schema": schema}, None)

    def wrong(self, at, rule, *schema):
        self.assertFails(BadSchema, {"table": at, "rule": rule}, check_schema, schema)
        self.assertFails(BadSchema, {"table": at, "rule": rule}, check_schema, schema=schema)

    def anywhere(self, rule, broken):
        """The definition breaks the rule at whatever index it stands."""
        self.wrong(0, rule, broken)
        self.wrong(0, rule, broken, table("v"), table("w"))
        self.wrong(1, rule, table("v"), broken, table("w"))
        self.wrong(2, rule, table("v"), table("w"), broken)

    def test_right(self):
        self.right()
        self.right(table())
        self.right(*SCHEMA)
        self.right(PAIRS)
        self.right(table(columns=tuple([(f"c{at}", kind) for at, kind in enumerate(KINDS[:6])]), key=("c3",)))
        self.right(table(columns=(("a", "any"),)))

    def test_name(self):
        for name in ("", "A", "1a", "_a", "a.b", "a b", "abcdefghijklm", None, True, False, 0, 1, *RESERVED):
            self.anywhere("name", table(name))
        self.right(table("abcdefghijkl"), table("a_1"), table("froms"))

    def test_name_of_an_earlier_one(self):
        self.wrong(1, "name", table("t"), table("t"))
        self.wrong(2, "name", table("t"), table("u"), table("t"))
        self.wrong(1, "name", table("t"), table("t"), table("t"))
        self.wrong(3, "name", table("t"), table("u"), table("v"), table("u"))
        self.right(table("t"), table("u"), table("v"))

    def test_columns(self):
        self.anywhere("columns", table(columns=()))
        for name in ("", "A", "1a", "a.b", "abcdefghijklm", None, True, 0, 1, *RESERVED):
            self.anywhere("columns", table(columns=(("a", "any"), (name, "any"))))
            self.anywhere("columns", table(columns=((name, "any"), ("a", "any"))))
        self.anywhere("columns", table(columns=(("a", "any"), ("a", "any"))))
        self.anywhere("columns", table(columns=(("a", "any"), ("b", "any"), ("a", "number"))))
        for kind in ("", "none", "any?", "Truth", "truth??", "?", "text ?", "numbers", None, True, False, 0, 1):
            self.anywhere("columns", table(columns=(("a", kind),)))
            self.anywhere("columns", table(columns=(("a", "any"), ("b", kind), ("c", "any"))))
        for kind in KINDS:
            self.right(table(columns=(("a", kind),)))
        self.right(table(columns=(("t", "any"), ("a", "any"))))

    def test_key(self):
        for key in ((), ("c",), ("a", "c"), ("a", "a"), ("b", "a", "b"), ("",), (None,), (True,), (1,), ("a", 0),
                    ("t.a",), ("any",)):
            self.anywhere("key", table(key=key))
        for key in (("a",), ("b",), ("a", "b"), ("b", "a")):
            self.right(table(key=key))

    def test_references(self):
        for references in (
            ((("a",), "none_such"),), ((("c",), "t"),), (((), "t"),), ((("a", "b"), "t"),),
            ((("a",), "t"), (("b",), "x")),
            ((("a",), "t"), (("a", "a"), "t")), ((("a",), None),), ((("a",), True),), ((("a",), 1),), (((None,), "t"),),
            (((1,), "t"),), (((True,), "t"),), ((("a",), ""),), ((("t",), "t"),),
            ((("b",), "t"), (("b",), "t"), (("x",), "t")),
        ):
            self.anywhere("references", table(references=references))
        for references in (((("a",), "t"),), ((("b",), "t"), (("b",), "t")),
                           ((("a",), "t"), (("b",), "t"), (("a",), "t"))):
            self.right(table(references=references))

    def test_references_to_other_definitions(self):
        wide = table("w", key=("b", "a"))
        to_wide = table("u", references=((("a", "b"), "w"),))
        self.right(wide, to_wide)
        self.right(to_wide, wide)
        self.right(table("u", references=((("b", "b"), "w"),)), wide)
        self.right(wide, table("w2", key=("a", "b"), references=((("b", "a"), "w"), (("a", "a"), "w2"))))
        self.wrong(1, "references", wide, table("u", references=((("a",), "w"),)))
        self.wrong(0, "references", table("u", references=((("a", "b", "a"), "w"),)), wide)
        self.wrong(0, "references", to_wide)
        self.right(table("p", references=((("a",), "q"),)), table("q", references=((("b",), "p"),)))

    def test_only_the_key_of_the_first_one_counts(self):
        """What else is wrong in the definition referred to is found only when its turn comes."""
        to_w = table("u", references=((("a", "b"), "w"),))
        self.wrong(2, "name", to_w, table("w", key=("a", "b")), table("w"))
        self.wrong(0, "references", to_w, table("w"), table("w", key=("a", "b")))
        self.wrong(1, "columns", to_w, table("w", columns=(), key=("a", "b")))
        self.wrong(1, "key", to_w, table("w", key=("a", "a")))
        self.wrong(1, "key", to_w, table("w", key=(None, 7)))
        self.wrong(1, "key", table("u", references=(((), "w"),)), table("w", key=()))
        self.wrong(1, "references", to_w, table("w", key=("a", "b"), references=((("a",), "w"),)))
        self.wrong(1, "checks", to_w, table("w", key=("a", "b"), checks=(check_on("x"),)))

    def test_names_that_are_no_texts(self):
        for name, other in ((True, 1), (1, True), (False, 0), (0, False), (None, False), (None, ""), (1, "1")):
            self.wrong(1, "name", table(references=((("a",), name),)), table(name))
            self.wrong(0, "references", table(references=((("a",), name),)), table(other))
            self.wrong(0, "references", table(references=((("a",), name),)), table(other, key=("a",)),
                       table(name, key=("a", "b")))
        self.wrong(1, "name", table(references=((("a", "b"), 1),)), table(True, key=("a",)), table(1, key=("a", "b")))

    def test_checks(self):
        for check in (
            check_on("c"), check_on("t.a"), check_on(""), check_on(None), check_on(True), check_on(1), check_on(0),
            ("not", check_on("c")), ("and", check_on("a"), check_on("c")), ("or", check_on("c"), ("true",)),
            ("compare", "=", ("value", 1), ("column", "c")), ("compare", "=", ("column", "a"), ("column", "c")),
            ("and", ("or", ("false",), check_on("b")), ("not", ("not", check_on("t")))),
        ):
            self.anywhere("checks", table(checks=(check,)))
            self.anywhere("checks", table(checks=(("true",), check_on("a"), check)))
        for check in (("true",), ("false",), check_on("a"), ("compare", "=", ("value", "c"), ("value", None)),
                      ("and", ("not", check_on("b")), ("or", check_on("a"), ("false",)))):
            self.right(table(checks=(check,)))
            self.right(table(checks=(check, check_on("b"), check)))

    def test_first_rule_of_the_first_definition(self):
        spoilt = {
            "name": {"name": "A"}, "columns": {"columns": (("a", "any"), ("b", "no"))}, "key": {"key": ()},
            "references": {"references": ((("a",), "none_such"),)}, "checks": {"checks": (check_on("c"),)},
        }
        rules = list(spoilt)
        for size in range(1, 6):
            for broken in itertools.combinations(rules, size):
                parts = {}
                for rule in broken:
                    parts.update(spoilt[rule])
                self.anywhere(broken[0], table(**parts))
        for first, second in itertools.product(rules, repeat=2):
            self.wrong(1, first, table("v"), table(**spoilt[first]), table(**{"name": "u", **spoilt[second]}))


class TestDefinitions(StoreCase):
    def test_definition_of(self):
        for definition in SCHEMA:
            self.assertCall(definition_of, {"schema": SCHEMA, "table": definition[0]}, definition)
        for name in ("order", "id", "orderss", "who"):
            self.assertFails(NoTable, {"table": name}, definition_of, SCHEMA, name)
        self.assertFails(NoTable, {"table": "orders"}, definition_of, (), "orders")
        self.assertFails(NoTable, {"table": "t"}, definition_of, table="t", schema=SCHEMA)

    def test_column_names(self):
        self.assertCall(column_names, {"definition": ORDERS}, ("id", "who", "qty", "paid"))
        self.assertCall(column_names, {"definition": PAIRS}, ("x", "y"))

    def test_key_of(self):
        self.assertCall(key_of, {"definition": ORDERS, "row": (4, "ann", None, True)}, (4,))
        self.assertCall(key_of, {"definition": PEOPLE, "row": ("ann", "bob")}, ("ann",))
        self.assertCall(key_of, {"definition": PAIRS, "row": (1, True)}, (True, 1))
        self.assertCall(key_of, {"definition": PAIRS, "row": (None, "")}, ("", None))
        wide = table(columns=(("a", "any"), ("b", "any"), ("c", "any")), key=("c", "a", "b"))
        self.assertCall(key_of, {"definition": wide, "row": (1, 2, 3)}, (3, 1, 2))


GOOD = (1, "ann", 5, True)


class TestCheckRows(StoreCase):
    def right(self, definition, *rows):
        self.assertCall(check_rows, {"definition": definition, "rows": rows}, None)
        self.assertCall(check_rows, {"definition": definition, "rows": list(rows)}, None)

    def wrong(self, error, attributes, definition, *rows):
        self.assertFails(error, attributes, check_rows, definition, rows)
        self.assertFails(error, attributes, check_rows, definition=definition, rows=list(rows))

    def test_right(self):
        self.right(ORDERS)
        self.right(ORDERS, GOOD, (2, "bob", 3, False), GOOD)
        self.right(PEOPLE, ("a", None), ("b", "none_such"))
        self.right(PAIRS, (None, True), (1, ""), (1, 1), (1, 1))

    def test_width(self):
        for row in ((), (1,), (1, "ann", 5), (*GOOD, None), (True,) * 12):
            self.wrong(BadWidth, {"table": "orders", "row": row}, ORDERS, row)
            self.wrong(BadWidth, {"table": "orders", "row": row}, ORDERS, GOOD, row, (1,))

    def test_kinds(self):
        for at, values in ((0, (True, False, None, "1", "")), (1, (None, True, 0, 1)), (2, (True, False, "5")),
                           (3, (0, 1, None, "true"))):
            for value in values:
                row = (*GOOD[:at], value, *GOOD[at + 1:])
                column = ("id", "who", "qty", "paid")[at]
                self.wrong(BadKind, {"table": "orders", "column": column}, ORDERS, row)
                self.wrong(BadKind, {"table": "orders", "column": column}, ORDERS, GOOD, row, (None, None, True, None))
        self.wrong(BadKind, {"table": "orders", "column": "who"}, ORDERS, (1, 1, True, None))
        self.wrong(BadKind, {"table": "orders", "column": "paid"}, ORDERS, (1, "", 1, None), (None, None, True, None))

    def test_checks(self):
        self.wrong(CheckFailed, {"table": "orders", "check": 0}, ORDERS, (1, "ann", 0, True))
        self.wrong(CheckFailed, {"table": "orders", "check": 0}, ORDERS, (1, "ann", None, False))
        self.wrong(CheckFailed, {"table": "orders", "check": 1}, ORDERS, (9, "ann", 5, False))
        self.wrong(CheckFailed, {"table": "orders", "check": 1}, ORDERS, GOOD, (5, "ann", 5, False),
                   (1, "ann", 0, True))
        self.wrong(CheckFailed, {"table": "orders", "check": 0}, ORDERS, GOOD, (5, "ann", 0, False),
                   (5, "ann", 5, False))
        for at in range(3):
            checks = tuple([("false",) if number == at else ("true",) for number in range(3)])
            self.wrong(CheckFailed, {"table": "t", "check": at}, table(checks=checks), (1, 1))
            self.right(table(checks=checks))
        beside = table(checks=(("compare", "=", ("column", "a"), ("value", 1)),))
        self.right(beside, (1, 1))
        self.wrong(CheckFailed, {"table": "t", "check": 0}, beside, (True, 1))

    def test_several_errors(self):
        narrow, unkind, unchecked = (1, "ann"), (1, None, 5, True), (1, "ann", -1, True)
        for rows in itertools.permutations((GOOD, narrow, unkind, unchecked)):
            self.wrong(BadWidth, {"table": "orders", "row": narrow}, ORDERS, *rows)
        for rows in itertools.permutations((GOOD, unkind, unchecked)):
            self.wrong(BadKind, {"table": "orders", "column": "who"}, ORDERS, *rows)
        self.wrong(BadWidth, {"table": "orders", "row": ()}, ORDERS, (), (1,))
        self.wrong(BadWidth, {"table": "orders", "row": (1,)}, ORDERS, (1,), ())
        self.wrong(BadKind, {"table": "orders", "column": "paid"}, ORDERS, (1, "ann", -1, 1), (None, "ann", -1, True))
        self.wrong(BadKind, {"table": "orders", "column": "id"}, ORDERS, (None, "ann", -1, True), (1, "ann", -1, 1))
        self.wrong(BadWidth, {"table": "orders", "row": (None, None)}, ORDERS, (None, None))


if __name__ == "__main__":
    unittest.main()
