"""Point 6: the error classes, where they stand, their attributes and their word."""

import unittest

from storedesk import errors
from tests.support import StoreCase

STORE = errors.StoreError
TEXT = errors.TextError
ROW = errors.RowError

CLASSES = (
    ("BadText", TEXT, ("at",)),
    ("BadSyntax", TEXT, ("line", "column")),
    ("BadSchema", STORE, ("table", "rule")),
    ("Closed", STORE, ()),
    ("Busy", STORE, ()),
    ("NameTaken", STORE, ("name",)),
    ("NoView", STORE, ("name",)),
    ("NoCopy", STORE, ("name",)),
    ("Forked", STORE, ("name", "number")),
    ("Gap", STORE, ("name", "number")),
    ("Swept", STORE, ("count",)),
    ("NoTable", STORE, ("table",)),
    ("NoColumn", STORE, ("label",)),
    ("Repeated", STORE, ("label",)),
    ("Unlike", STORE, ("left", "right")),
    ("NotATree", STORE, ()),
    ("NoPlace", STORE, ("place",)),
    ("NoStep", STORE, ("rule", "place")),
    ("TooMany", STORE, ("count",)),
    ("BadWidth", ROW, ("table", "row")),
    ("BadKind", ROW, ("table", "column")),
    ("CheckFailed", ROW, ("table", "check")),
    ("Mismatch", STORE, ("table", "key")),
    ("KeyTaken", STORE, ("table", "key")),
    ("Dangling", STORE, ("table", "reference", "key")),
    ("NotSerial", STORE, ("ring",)),
    ("Stopped", STORE, ()),
)

# The worths of the attributes, by their place among them, tuples and truths among these.
WORTHS = (
    ("orders", 7, "a b"),
    ((1, True, None), ("o.id", "o.qty"), (0, 1)),
    (0, False, ()),
    (None, True, 1),
)


class TestClasses(StoreCase):
    def test_there_are_27(self):
        self.assertEqual(len(CLASSES), 27)
        self.assertEqual(len({getattr(errors, name) for name, _, _ in CLASSES}), 27)

    def test_where_they_stand(self):
        self.assertTrue(issubclass(STORE, ValueError))
        self.assertEqual(TEXT.__bases__, (STORE,))
        self.assertEqual(ROW.__bases__, (STORE,))
        for name, base, _ in CLASSES:
            with self.subTest(name):
                self.assertEqual(getattr(errors, name).__bases__, (base,))

    def test_they_are_defined_here(self):
        for name in [*[name for name, _, _ in CLASSES], "StoreError", "TextError", "RowError"]:
            with self.subTest(name):
                self.assertEqual(getattr(errors, name).__module__, "storedesk.errors")
                self.assertEqual(getattr(errors, name).__name__, name)

    def test_caught_by_those_above(self):
        for name, base, attributes in CLASSES:
            for above in (base, STORE, ValueError):
                with self.subTest(name):
                    with self.assertRaises(above):
                        raise getattr(errors, name)(*WORTHS[0][:len(attributes)])

    def test_not_caught_by_others(self):
        for name, base, attributes in CLASSES:
            error = getattr(errors, name)(*WORTHS[0][:len(attributes)])
            self.assertEqual(isinstance(error, TEXT), base is TEXT, name)
            self.assertEqual(isinstance(error, ROW), base is ROW, name)
            for other, _, _ in CLASSES:
                self.assertEqual(isinstance(error, getattr(errors, other)), other == name, (name, other))


class TestAttributes(StoreCase):
    def check(self, error, name, attributes, worths):
        self.assertSame(error.word, name)
        for attribute, worth in zip(attributes, worths):
            self.assertSame(getattr(error, attribute), worth, (name, attribute))

    def test_by_position(self):
        for name, _, attributes in CLASSES:
            for worths in WORTHS:
                with self.subTest(name):
                    error = getattr(errors, name)(*worths[:len(attributes)])
                    self.check(error, name, attributes, worths)

    def test_by_name(self):
        for name, _, attributes in CLASSES:
            for worths in WORTHS:
                with self.subTest(name):
                    pairs = list(zip(attributes, worths))
                    self.check(getattr(errors, name)(**dict(pairs)), name, attributes, worths)
                    self.check(getattr(errors, name)(**dict(reversed(pairs))), name, attributes, worths)

    def test_by_position_and_name(self):
        self.check(errors.Dangling("t", key=(1,), reference=0), "Dangling", ("table", "reference", "key"),
                   ("t", 0, (1,)))
        self.check(errors.BadWidth("t", row=()), "BadWidth", ("table", "row"), ("t", ()))

    def test_each_object_has_its_own(self):
        first = errors.NoTable("a")
        errors.NoTable("b")
        self.assertSame(first.table, "a")


if __name__ == "__main__":
    unittest.main()
