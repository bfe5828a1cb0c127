"""Points 10 to 14: values and rows, their order, their written forms, names and labels."""

import itertools
import random
import re
import string
import unittest

from storedesk.errors import BadText
from storedesk.values import (
    RESERVED, compare, compare_rows, is_label, is_name, kind_of, read_row, read_value, row_key, same, sort_key,
    sorted_rows, write_row, write_value,
)
from tests.support import StoreCase

# Every value comes before the next one.
ASCENDING = (
    None, False, True,
    -(10 ** 30 - 1), -(10 ** 29), -100, -20, -3, -1, 0, 1, 2, 9, 10, 20, 100, 2 ** 53, 2 ** 53 + 1, 10 ** 29,
    10 ** 30 - 1,
    "", " ", "!", '"', "-1", "0", "1", "10", "2", "A", "B", "Z", "\\", "_", "a", "a ", "aB", "aa", "ab", "b", "none",
    "true", "z", "{", "~", "~~",
)
PLAIN = "".join([chr(code) for code in range(32, 127) if chr(code) != "%"])


class TestKindsAndOrder(StoreCase):
    def test_kinds(self):
        for value, kind in (
            (None, "none"), (True, "truth"), (False, "truth"), (0, "number"), (1, "number"), (-1, "number"),
            (10 ** 30 - 1, "number"), ("", "text"), ("none", "text"), ("1", "text"), ("true", "text"),
        ):
            self.assertCall(kind_of, {"value": value}, kind)

    def test_sort_keys(self):
        for value, key in (
            (None, (0, 0)), (False, (1, 0)), (True, (1, 1)), (0, (2, 0)), (1, (2, 1)), (-7, (2, -7)),
            (10 ** 30 - 1, (2, 10 ** 30 - 1)), ("", (3, "")), ("a b", (3, "a b")), ("0", (3, "0")),
        ):
            self.assertCall(sort_key, {"value": value}, key)

    def test_compare(self):
        for left, right in itertools.product(range(len(ASCENDING)), repeat=2):
            wanted = (left > right) - (left < right)
            self.assertSame(compare(ASCENDING[left], ASCENDING[right]), wanted, (ASCENDING[left], ASCENDING[right]))
        self.assertCall(compare, {"left": 1, "right": True}, 1)
        self.assertCall(compare, {"left": False, "right": 0}, -1)

    def test_row_key(self):
        self.assertCall(row_key, {"row": ()}, ())
        self.assertCall(row_key, {"row": (1,)}, ((2, 1),))
        self.assertCall(
            row_key, {"row": (None, True, False, 1, 0, -5, "x")},
            ((0, 0), (1, 1), (1, 0), (2, 1), (2, 0), (2, -5), (3, "x")),
        )


# Every row comes before the next one.
ASCENDING_ROWS = (
    (), (None,), (None, None), (None, False), (None, 0), (None, ""), (False,), (False, None), (False, "z"), (True,),
    (True, None), (True, True), (True, 1), (-2,), (-1,), (-1, "a"), (0,), (0, 0), (0, 0, 0), (0, 1), (1,), (1, None),
    (1, True), (1, 1), (1, 1, None), (1, "1"), (2,), (10,), ("",), ("", "b"), ("1",), ("10",), ("2",), ("a",),
    ("a", "b"), ("a", "b", "c"), ("a", "c"), ("aa",), ("b",),
)


class TestRows(StoreCase):
    def test_compare_rows(self):
        for left, right in itertools.product(range(len(ASCENDING_ROWS)), repeat=2):
            wanted = (left > right) - (left < right)
            pair = (ASCENDING_ROWS[left], ASCENDING_ROWS[right])
            self.assertSame(compare_rows(*pair), wanted, pair)
        self.assertCall(compare_rows, {"left": (1, 2), "right": (1, 2, None)}, -1)
        self.assertCall(compare_rows, {"left": (1, 2), "right": (True, 2)}, 1)

    def test_sorted_rows(self):
        order = random.Random(1)
        for _ in range(20):
            rows = [*ASCENDING_ROWS, *ASCENDING_ROWS[::3]]
            wanted = sorted(rows, key=place_in_order)
            order.shuffle(rows)
            self.assertSame(sorted_rows(rows), wanted)
            self.assertSame(sorted_rows(tuple(rows)), wanted)
        self.assertCall(sorted_rows, {"rows": []}, [])
        self.assertCall(sorted_rows, {"rows": ()}, [])
        self.assertCall(sorted_rows, {"rows": [(2,), (), (1,), (), (2,)]}, [(), (), (1,), (2,), (2,)])
        self.assertCall(
            sorted_rows, {"rows": [("b",), (1,), (True,), (None,), (-3,)]}, [(None,), (True,), (-3,), (1,), ("b",)]
        )


def place_in_order(row):
    return [repr(known) for known in ASCENDING_ROWS].index(repr(row))


def nested(depth, inmost):
    thing = inmost
    for _ in range(depth):
        thing = (thing,)
    return thing


class TestSame(StoreCase):
    def test_values(self):
        for left, right in itertools.product(range(len(ASCENDING)), repeat=2):
            self.assertSame(same(ASCENDING[left], ASCENDING[right]), left == right, (ASCENDING[left], ASCENDING[right]))
        self.assertSame(same("".join(["a", "b"]), "ab"), True)
        self.assertSame(same(int("123456789012345678901234567890"), 123456789012345678901234567890), True)

    def test_truths_are_no_numbers(self):
        for left, right in ((True, 1), (1, True), (False, 0), (0, False)):
            for depth in range(4):
                self.assertCall(same, {"left": nested(depth, left), "right": nested(depth, right)}, False)
        self.assertSame(same((1, (2, (True,))), (1, (2, (1,)))), False)
        self.assertSame(same(("a", ("value", 0)), ("a", ("value", False))), False)

    def test_tuples(self):
        things = (
            (), ((),), (((),),), ((), ()), (1,), (1, 2), (2, 1), (1, 2, 3), ((1, 2),), ((1,), 2), (1, (2,)), ("a",),
            ("ab",),
            ("a", "b"), (None,), (None, None), (True,), (False,), (0,), ((True,),), ((1,),), ("",), ("(1,)",),
        )
        for left, right in itertools.product(range(len(things)), repeat=2):
            self.assertSame(same(things[left], things[right]), left == right, (things[left], things[right]))

    def test_a_value_and_a_tuple(self):
        for value in (None, True, False, 0, 1, "", "a", "()"):
            for thing in ((), (value,), ((value,),)):
                self.assertSame(same(value, thing), False, (value, thing))
                self.assertSame(same(thing, value), False, (value, thing))

    def test_deep(self):
        self.assertSame(same(nested(130, 1), nested(130, 1)), True)
        self.assertSame(same(nested(130, 1), nested(130, True)), False)
        self.assertSame(same(nested(130, 1), nested(129, 1)), False)
        left, right, other = 0, 0, False
        for _ in range(130):
            left, right, other = ("and", left, "x"), ("and", right, "x"), ("and", other, "x")
        self.assertSame(same(left, right), True)
        self.assertSame(same(left, other), False)


RESERVED_WORDS = (
    "from as empty with where read group by tell union minus top up down count sum least most not and or always never "
    "none true false put take set to"
)


class TestNames(StoreCase):
    def test_reserved(self):
        self.assertSame(RESERVED, tuple(RESERVED_WORDS.split()))

    def test_names(self):
        for text in ("a", "z", "a1", "a_", "z_9", "orders", "abcdefghijkl", "froms", "fro", "a__b", "order", "x" * 12):
            self.assertCall(is_name, {"thing": text}, True)
        for text in ("", "A", "aB", "_", "_a", "1", "1a", "a b", " a", "a ", "a.b", "a-b", "abcdefghijklm", "x" * 40):
            self.assertCall(is_name, {"thing": text}, False)
        for word in RESERVED_WORDS.split():
            self.assertSame(is_name(word), False, word)
            self.assertSame(is_name(word + "_"), True, word)

    def test_each_character(self):
        for mark in PLAIN:
            self.assertSame(is_name(mark), mark in string.ascii_lowercase, mark)
            for text in ("a" + mark, "a" + mark + "b", "abcdefghijk" + mark):
                wanted = mark in string.ascii_lowercase + string.digits + "_"
                self.assertSame(is_name(text), wanted and text not in RESERVED_WORDS.split(), text)

    def test_labels(self):
        for text in ("a", "o.id", "a.b", "abcdefghijkl.abcdefghijkl", "a_.b_1", "orders.froms"):
            self.assertCall(is_label, {"thing": text}, True)
        for text in (
            "", ".", "a.", ".a", "a..b", "a.b.c", "a.b.", "A.b", "a.B", "a.1", "1.a", "a. b", "a .b", " a.b", "a.b ",
            "abcdefghijklm.a", "a.abcdefghijklm", "a,b", "a-b.c", "a.b" * 13,
        ):
            self.assertCall(is_label, {"thing": text}, False)
        for word in RESERVED_WORDS.split():
            for text in (word, "a." + word, word + ".a", word + "." + word):
                self.assertSame(is_label(text), False, text)

    def test_what_is_no_text(self):
        for thing in (None, True, False, 0, 1, -1, 10 ** 30 - 1):
            self.assertCall(is_name, {"thing": thing}, False)
            self.assertCall(is_label, {"thing": thing}, False)


WRITTEN = (
    (None, "none"), (True, "true"), (False, "false"), (0, "0"), (1, "1"), (-1, "-1"), (10, "10"), (-120, "-120"),
    (10 ** 30 - 1, "9" * 30), (-(10 ** 30 - 1), "-" + "9" * 30), ("", '""'), ("a", '"a"'), ("none", '"none"'),
    (" a  b ", '" a  b "'), ('"', '"\\""'), ("\\", '"\\\\"'), ('\\"', '"\\\\\\""'), ('a"b\\c', '"a\\"b\\\\c"'),
    ("\\n", '"\\\\n"'), ("(1, 2)", '"(1, 2)"'), ("'", '"\'"'), ("-0", '"-0"'),
)
WRITTEN_ROWS = (
    ((), "()"), ((7,), "(7)"), ((1, "a", None), '(1, "a", none)'), ((True, 1, False, 0), "(true, 1, false, 0)"),
    (("",), '("")'), ((", ", ")"), '(", ", ")")'), (('"', "\\"), '("\\"", "\\\\")'), ((None, None), "(none, none)"),
    (tuple(range(-6, 6)), "(-6, -5, -4, -3, -2, -1, 0, 1, 2, 3, 4, 5)"),
)


class TestWriting(StoreCase):
    def test_values(self):
        for value, text in WRITTEN:
            self.assertCall(write_value, {"value": value}, text)
        for mark in PLAIN:
            written = "\\" + mark if mark in '"\\' else mark
            self.assertSame(write_value(mark + "x" + mark), f'"{written}x{written}"')

    def test_rows(self):
        for row, text in WRITTEN_ROWS:
            self.assertCall(write_row, {"row": row}, text)


class TestReading(StoreCase):
    def test_values(self):
        for value, text in WRITTEN:
            self.assertCall(read_value, {"text": text}, value)
        for mark in PLAIN:
            self.assertSame(read_value(write_value(mark)), mark)
            self.assertSame(read_value(write_value("x" + mark)), "x" + mark)
        self.assertSame(read_value('"' + PLAIN.replace("\\", "\\\\").replace('"', '\\"') + '"'), PLAIN)

    def test_rows(self):
        for row, text in WRITTEN_ROWS:
            self.assertCall(read_row, {"text": text}, row)
        for value, text in WRITTEN:
            self.assertSame(read_row(f"({text})"), (value,))
            self.assertSame(read_row(f"({text}, {text})"), (value, value))

    def test_values_of_any_size(self):
        for text in ("9" * 1500, "-" + "1" * 1499, '"' + "z" * 1498 + '"', '"' + "\\\\" * 749 + '"', "1" + "0" * 900):
            self.assertSame(write_value(read_value(text)), text)
        self.assertSame(read_value("9" * 1500), 10 ** 1500 - 1)
        self.assertSame(read_value("-1" + "0" * 1498), -(10 ** 1498))
        self.assertSame(read_value('"' + "z" * 1498 + '"'), "z" * 1498)
        self.assertSame(read_row("(1, " + "9" * 1400 + ', "' + "a" * 80 + '")'), (1, 10 ** 1400 - 1, "a" * 80))

    def test_sizes_are_compared(self):
        large = read_value("9" * 1500)
        below = read_value("-" + "9" * 1499)
        self.assertSame(compare(large, read_value("9" * 1499 + "8")), 1)
        self.assertSame(compare(below, large), -1)
        self.assertSame(compare(large, 10 ** 30 - 1), 1)
        self.assertSame(sort_key(large), (2, large))
        self.assertSame(same((large,), (read_value("9" * 1500),)), True)
        self.assertSame(write_row((large, below)), "(" + "9" * 1500 + ", -" + "9" * 1499 + ")")

    def test_where_a_value_is_spoilt(self):
        for text, at in (
            ("", 0), ("007", 1), ("00", 1), ("tru", 3), ("-0", 1), ("-", 1), ("-01", 1), ("--1", 1), ("-a", 1),
            ("+1", 0),
            ("n", 1), ("no", 2), ("non", 3), ("nome", 2), ("none ", 4), ("nonee", 4), (" none", 0), ("None", 0),
            ("t", 1), ("truth", 3), ("true1", 4), ("f", 1), ("fals", 4), ("falsy", 4), ("false,", 5), ("tfalse", 1),
            ("1 ", 1), ("12a", 2), ("-12-", 3), ("1.5", 1), ("1,", 1), ("1_0", 1), ("1e5", 1), ("x", 0), ("(1)", 0),
            ("'a'", 0),
            ('"', 1), ('"a', 2), ('"a\\', 3), ('"a\\b"', 3), ('"a\\"', 4), ('"a" ', 3), ('"a""', 3), ('"a"b"', 3),
            ('"\\n"', 2), ('"a\nb"', 2), ('"\n', 1), ("\n", 0), ("1\n", 1), ("none\n", 4), ("A", 0), ("nan", 1),
            ("no ne", 2),
            ("9" * 1499 + "a", 1499), ('"' + "a" * 1499, 1500), ("-" * 1500, 1),
        ):
            self.assertFails(BadText, {"at": at}, read_value, text)
        self.assertFails(BadText, {"at": 1}, read_value, text="007")

    def test_where_a_row_is_spoilt(self):
        for text, at in (
            ("", 0), ("(", 1), ("( ", 1), ("()", None), ("() ", 2), ("())", 2), (")", 0), ("1", 0), (" ()", 0),
            ("( )", 1),
            ("(1", 2), ("(1,", 3), ("(1,)", 3), ("(1, ", 4), ("(1, )", 4), ("(1,2)", 3), ("(1,  2)", 4), ("(1 , 2)", 2),
            ("(1 )", 2), ("(1, 2", 5), ("(1, 2)x", 6), ("(1, 2) ", 6), ("(1, 2),", 6), ("(, 1)", 1), ("(01)", 2),
            ("(1, -0)", 5),
            ("(-", 2), ("(-)", 2), ("(tru", 4), ("(tru)", 4), ("(none, tr)", 9), ("(x)", 1), ("((1))", 1), ('("', 2),
            ('("a', 3),
            ('("a\\)', 4), ('("a")', None), ('("a"', 4), ('("a";', 4), ("(1\n)", 2), ("(1,\n2)", 3), ("(\n)", 1),
            ("(1)\n", 3),
            ("[1]", 0), ("(1, 2, 03)", 8), ("(none", 5), ("(nonex", 5), ("(0 0)", 2), ("(00)", 2), ("(1;", 2),
            ("(" * 8, 1),
        ):
            if at is None:
                read_row(text)
            else:
                self.assertFails(BadText, {"at": at}, read_row, text)
        self.assertFails(BadText, {"at": 3}, read_row, text="(1,2)")


QUOTED = r'"(?:[ !#-$&-\[\]-~]|\\["\\])*'
VALUE = rf'(?:none|true|false|0|-?[1-9][0-9]*|{QUOTED}")'
VALUE_BEGUN = rf'(?:n|no|non|t|tr|tru|f|fa|fal|fals|-|{QUOTED}\\?|{VALUE})?'
ROW = rf"\((?:{VALUE}(?:, {VALUE})*)?\)"
ROW_BEGUN = rf"(?:\((?:{VALUE}, )*(?:{VALUE_BEGUN}|{VALUE},)|{ROW})?"


def longest_begun(pattern, text):
    return max([size for size in range(len(text) + 1) if re.fullmatch(pattern, text[:size])])


class TestSpoiltTexts(StoreCase):
    """Written forms that are spoilt at every place, beside what patterns say of them."""

    MARKS = ' \n"\\()-,01aen_.~!'

    def spoilt(self, text):
        for at in range(len(text) + 1):
            yield text[:at]
            yield text[:at] + text[at + 1:]
            for mark in self.MARKS:
                yield text[:at] + mark + text[at:]
                yield text[:at] + mark + text[at + 1:]

    def check(self, read, write, form, begun, texts):
        for text in texts:
            for spoilt in self.spoilt(text):
                if re.fullmatch(form, spoilt):
                    self.assertSame(write(read(spoilt)), spoilt)
                else:
                    self.assertFails(BadText, {"at": longest_begun(begun, spoilt)}, read, spoilt)

    def test_values(self):
        self.check(read_value, write_value, VALUE, VALUE_BEGUN, [text for _, text in WRITTEN])

    def test_rows(self):
        self.check(read_row, write_row, ROW, ROW_BEGUN, [text for _, text in WRITTEN_ROWS])


if __name__ == "__main__":
    unittest.main()
