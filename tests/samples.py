"""Schemas and a book that several tests use."""

# "zoo" stands before "ants" to keep the order of a schema apart from that of names.
ZOO = ("zoo", (("code", "any"), ("city", "text?")), ("code",), (), ())
ANTS = (
    "ants",
    (("id", "number"), ("zoo", "any"), ("queen", "number?"), ("size", "number")),
    ("id",),
    ((("zoo",), "zoo"), (("queen",), "ants")),
    (("compare", ">", ("column", "size"), ("value", 0)), ("compare", "<", ("column", "size"), ("value", 100))),
)
# The key's columns stand in another order than in the row, and the reference goes to the table itself.
MARKS = ("marks", (("x", "any"), ("y", "any"), ("of_y", "any"), ("of_x", "any")), ("y", "x"),
         ((("of_y", "of_x"), "marks"),), ())
SCHEMA = (ZOO, ANTS, MARKS)
ZOO_ROWS = (("a", None), ("b", "Rome"))
ANT_ROWS = ((1, "a", None, 5), (2, "b", 1, 6), (3, None, 3, 7))
MARK_ROWS = ((1, 1, None, 9), (2, 1, 1, 2), (0, 2, 1, 1))
BOOK = (("zoo", ZOO_ROWS), ("ants", ANT_ROWS), ("marks", MARK_ROWS))
# Two tables that refer to each other.
RING = (
    ("p", (("id", "number"), ("q", "number?")), ("id",), ((("q",), "q"),), ()),
    ("q", (("id", "number"), ("p", "number?")), ("id",), ((("p",), "p"),), ()),
)
TRUTHS = (("t", (("k", "any"), ("to", "any")), ("k",), ((("to",), "t"),), ()),)


def zoo(*rows):
    return ("zoo", rows)


def ants(*rows):
    return ("ants", rows)


def marks(*rows):
    return ("marks", rows)
