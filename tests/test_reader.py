"""Points 36 to 38: reading queries, changes and conditions."""

import functools
import random
import unittest

from storedesk.errors import BadSyntax
from storedesk.reader import read_change, read_condition, read_query
from storedesk.values import RESERVED, is_name
from storedesk.words import tokens
from tests.support import StoreCase

T = ("table", "t", "t")
U = ("table", "u", "v")


def compare(op, left, right):
    return ("compare", op, left, right)


def column(label):
    return ("column", label)


def value(content):
    return ("value", content)


A1 = compare("=", column("a"), value(1))
B2 = compare("=", column("b"), value(2))
C3 = compare("=", column("c"), value(3))


class ReaderCase(StoreCase):
    def query(self, text, wanted):
        self.assertCall(read_query, {"text": text}, wanted)

    def staged(self, text, *wanted):
        """What stands behind `from t as t`; the parts of the node without the tree so far are given."""
        self.query("from t as t " + text, (wanted[0], T, *wanted[1:]))

    def change(self, text, wanted):
        self.assertCall(read_change, {"text": text}, wanted)

    def condition(self, text, wanted):
        self.assertCall(read_condition, {"text": text}, wanted)

    def bad(self, read, text, line, column):
        self.assertFails(BadSyntax, {"line": line, "column": column}, read, text)
        self.assertFails(BadSyntax, {"line": line, "column": column}, read, text=text)

    def bad_at(self, read, text):
        """The first token that fits nowhere stands behind the mark `^`, which is no part of the text."""
        at = text.index("^")
        before = text[:at].split("\n")
        self.bad(read, text[:at] + text[at + 1:], len(before), len(before[-1]) + 1)


class TestExamples(ReaderCase):
    def test_interface(self):
        self.query(
            "from orders as o where o.qty > 2 read o.id",
            ("read", ("where", ("table", "orders", "o"), compare(">", column("o.qty"), value(2))), (("o.id", "o.id"),)),
        )
        self.bad(read_condition, "a = 1 or", 1, 9)


class TestSources(ReaderCase):
    def test_tables(self):
        self.query("from t as t", T)
        self.query("from orders as o", ("table", "orders", "o"))
        self.query("from keep as abcdefghijkl", ("table", "keep", "abcdefghijkl"))
        self.query("from x_1 as y__", ("table", "x_1", "y__"))

    def test_empty(self):
        self.query("from empty (a)", ("empty", ("a",)))
        self.query("from empty (a, b.c, a)", ("empty", ("a", "b.c", "a")))
        self.query("from empty(a,b.c)", ("empty", ("a", "b.c")))

    def test_parentheses(self):
        self.query("from (from t as t)", T)
        self.query("from (from (from empty (a)))", ("empty", ("a",)))
        self.query("from (from t as t where always) top 2", ("top", ("where", T, ("true",)), (), 2))
        self.query("from t as t with (from u as v with t as w)", ("pair", T, ("pair", U, ("table", "t", "w"))))
        text = "from t as t"
        for _ in range(8):
            text = f"from ({text})"
        self.query(text, T)

    def test_not_a_source(self):
        for text in ("^", "^t as t", "^(from t as t)", "^empty (a)", "^a = 1", "from ^", "from t ^", "from t as ^",
                     "from t ^t", "from t^.a as t", "from t as t ^u", "from t as t^.u", "from ^where", "from t as ^as",
                     "from ^1 as t", 'from ^"t" as t', "from (^t as t)", "from (^)", "from (from t as t^",
                     "from (from t as t) ^as u", "from (from t as t)^)", "from t as t^)",
                     "from empty ^", "from empty_ ^", "from empty (^)", "from empty (a ^b)", "from empty (a,^)",
                     "from empty (a^", "from empty (a, b.^)", "from empty (^1)", "from empty (a.b^.c)",
                     "from empty ^as e", "from ^none as n", "from t as t ^from u as u", "from t as t^, u as u",
                     "^-", "^!", "from ^007", "^from_ t as t", "^FROM t as t", "from (from t as t ^"):
            self.bad_at(read_query, text)


class TestStages(ReaderCase):
    def test_each_stage(self):
        self.staged("with u as v", "pair", U)
        self.staged("union u as v", "union", U)
        self.staged("minus u as v", "minus", U)
        self.staged("with empty (a.b)", "pair", ("empty", ("a.b",)))
        self.staged("union (from u as v where a = 1)", "union", ("where", U, A1))
        self.staged("minus (from u as v)", "minus", U)
        self.staged("where a = 1", "where", A1)
        self.staged("where always", "where", ("true",))
        self.staged("read a", "read", (("a", "a"),))
        self.staged("group by a", "group", ("a",), ())
        self.staged("top 3", "top", (), 3)

    def test_items(self):
        self.staged("read a as b", "read", (("a", "b"),))
        self.staged("read a as a", "read", (("a", "a"),))
        self.staged("read t.a as b.c, t.b, c as c.c", "read", (("t.a", "b.c"), ("t.b", "t.b"), ("c", "c.c")))

    def test_groups(self):
        self.staged("group by a, t.b, a", "group", ("a", "t.b", "a"), ())
        self.staged("group tell count as n", "group", (), (("count", None, "n"),))
        self.staged("group by a tell count as b.n", "group", ("a",), (("count", None, "b.n"),))
        self.staged(
            "group by a tell sum t.b as s, least c as l, most d as t.m, count as n",
            "group", ("a",),
            (("sum", "t.b", "s"), ("least", "c", "l"), ("most", "d", "t.m"), ("count", None, "n")),
        )

    def test_tops(self):
        self.staged("top 0", "top", (), 0)
        self.staged("top 1000000", "top", (), 1000000)
        self.staged("top 2 by a", "top", (("a", "up"),), 2)
        self.staged("top 2 by a up", "top", (("a", "up"),), 2)
        self.staged("top 2 by a down", "top", (("a", "down"),), 2)
        self.staged("top 2 by t.a down, b, c up, a", "top",
                    (("t.a", "down"), ("b", "up"), ("c", "up"), ("a", "up")), 2)

    def test_stages_follow_one_another(self):
        tree = ("top", ("union", ("where", ("pair", T, U), A1), T), (), 1)
        self.query("from t as t with u as v where a = 1 union t as t top 1", tree)
        tree = ("where", ("group", ("read", ("minus", T, ("pair", T, U)), (("a", "b"),)), ("b",), ()), B2)
        self.query("from t as t minus (from t as t with u as v) read a as b group by b where b = 2", tree)
        self.query("from t as t with u as v with u as v", ("pair", ("pair", T, U), U))
        self.query("from t as t where a = 1 where b = 2", ("where", ("where", T, A1), B2))
        self.query("from t as t with (from t as t top 1) top 2", ("top", ("pair", T, ("top", T, (), 1)), (), 2))

    def test_not_a_stage(self):
        for text in (
            "with ^", "with ^where", "with u ^", "with u as ^with", "with ^from u as v", "with (^u as v)", "union ^",
            "union ^1", "minus empty ^", "minus (from u as v ^", "^pair u as v", "^by a", "^as u", "^and a = 1",
            "where ^", "where ^with", "where a ^", "where a = ^", "where a = 1 ^= 2", "where a = 1 ^b = 2",
            "where a = 1^, b = 2", "read ^", "read a ^b", "read a,^", "read a as ^", "read a as ^1", "read ^1",
            "read a as b ^as c", "read a,^,b", "read ^(a)", "read ^as a", "read ^count as n", 'read ^"a"',
            "read a ^down", "group ^", "group ^a", "group ^count as n", "group by ^", "group by a ^count as n",
            "group by a, ^tell count as n", "group by a tell ^", "group tell ^", "group tell count ^", "group tell ^a",
            "group tell count ^a as n", "group tell count as ^", "group tell sum ^as s", "group tell sum a ^",
            "group tell sum a as ^1", "group tell ^top", "group tell count as n ^by a", "group tell count as n,^",
            "group by a ^as b", "group tell least a ^b", "group tell most a.^", "top ^", "top ^-1",
            "top ^by a", 'top ^"1"', "top ^a", "top ^007", "top 1 ^a", "top 1 by ^", "top 1 by a ^a", "top 1 by a,^",
            "top 1 by a up ^down", "top 1 by ^down", "top 1 by a down^.b", "top 1 by ^1", "top 1^.0", "top ^none",
            "top 1 ^2", "top ^(1)", "^order by a", "^x", "^1", '^"a"', "^=",
        ):
            self.bad_at(read_query, "from t as t " + text)


class TestConditions(ReaderCase):
    def test_operands(self):
        self.condition("always", ("true",))
        self.condition("never", ("false",))
        self.condition("a = 1", A1)
        for op in ("=", "!=", "<", "<=", ">", ">="):
            self.condition(f"a.b {op} 0", compare(op, column("a.b"), value(0)))
            self.condition(f'"x"{op}-7', compare(op, value("x"), value(-7)))

    def test_terms(self):
        for text, content in (
            ("0", 0), ("1", 1), ("-1", -1), ("1" + "0" * 29, 10 ** 29), ("-" + "9" * 30, 1 - 10 ** 30),
            ("none", None), ("true", True), ("false", False), ('""', ""), ('"a b"', "a b"), ('"from"', "from"),
            ('"\\""', '"'), ('"\\\\"', "\\"), ('"a\\\\\\"b"', 'a\\"b'), ('"none"', "none"), ('"1"', "1"),
            ('"' + "~" * 40 + '"', "~" * 40),
        ):
            self.condition(f"{text} < a", compare("<", value(content), column("a")))
            self.condition(f"a<{text}", compare("<", column("a"), value(content)))
            self.condition(f"{text} = {text}", compare("=", value(content), value(content)))

    def test_grouping(self):
        self.condition("a = 1 and b = 2", ("and", A1, B2))
        self.condition("a = 1 or b = 2", ("or", A1, B2))
        self.condition("a = 1 or b = 2 or c = 3", ("or", ("or", A1, B2), C3))
        self.condition("a = 1 and b = 2 and c = 3", ("and", ("and", A1, B2), C3))
        self.condition("a = 1 or b = 2 and c = 3", ("or", A1, ("and", B2, C3)))
        self.condition("a = 1 and b = 2 or c = 3", ("or", ("and", A1, B2), C3))
        self.condition("a = 1 or (b = 2 or c = 3)", ("or", A1, ("or", B2, C3)))
        self.condition("a = 1 and (b = 2 and c = 3)", ("and", A1, ("and", B2, C3)))
        self.condition("(a = 1 or b = 2) and c = 3", ("and", ("or", A1, B2), C3))
        self.condition("not a = 1 and b = 2", ("and", ("not", A1), B2))
        self.condition("not (a = 1 and b = 2)", ("not", ("and", A1, B2)))
        self.condition("not not a = 1", ("not", ("not", A1)))
        self.condition("not a = 1 or not b = 2", ("or", ("not", A1), ("not", B2)))
        self.condition("a = 1 and not b = 2", ("and", A1, ("not", B2)))
        self.condition("not (not (always))", ("not", ("not", ("true",))))
        self.condition("((a = 1))", A1)
        self.condition("(((((((( a = 1 ))))))))", A1)
        self.condition("(a = 1) or (b = 2) and (c = 3)", ("or", A1, ("and", B2, C3)))

    def test_not_a_condition(self):
        for text in (
            "^", "a ^", "a.^", "a.b^.c = 1", "a = ^", "a ^b", "a ^1", "a = ^=", "a.^.b = 1",
            "a^, b", "^= 1", "a = 1 ^=", "a = 1 ^a", "a = 1 and ^", "a = 1 or ^", "a = 1 or ^or b = 2", "^and a = 1",
            "^or", "not ^", "not ^and", "not not ^", "(^", "(a ^)", "(a = 1 ^", "(a = 1 and ^)",
            "a = 1^)", "(a^) = 1", "a = ^(1)", "(^) = 1", "always ^= 1", "always ^always", "^where a = 1", "a = ^not b",
            "a = ^always", "^up = 1", "a ^and b", "a ^not = b", "1 ^", "1 ^and", "none ^.a = 1", "none^.a", "a = b ^c",
            "a . ^1", "a . ^from = 1", "^from.a = 1", "a = ^!", "a ^!", "a = 1 ^!", "^007 = 1", "a = ^-0", '^"a',
            'a = ^"\\x"', "a ^: 1", "^A = 1", "a = 1 or b = 2 or ^", "a=1 ^b=2", "a <^> 1",
            "a = ^= 1", "a ^! = 1",
        ):
            self.bad_at(read_condition, text)

    def test_hundreds_of_nots(self):
        self.bad(read_condition, "not " * 370, 1, 1481)
        self.bad(read_condition, "not\n" * 370 + "and", 371, 1)
        self.bad(read_query, "from t as t where " + "not " * 360 + "= 1", 1, 19 + 1440)
        self.bad(read_change, "take t where " + "not " * 360, 1, 14 + 1440)

    def test_long_texts(self):
        text = "a=1" + " or a=1" * 200 + " or"
        self.bad(read_condition, text, 1, len(text) + 1)
        text = "from t as t" + " top 1" * 240 + " top"
        self.bad(read_query, text, 1, len(text) + 1)
        text = "put t " + "(1)," * 360
        self.bad(read_change, text, 1, len(text) + 1)


class TestNames(ReaderCase):
    def test_reserved_words(self):
        for word in RESERVED:
            for text in (f"from ^{word} t", f"from t as ^{word}", f"from empty (a.^{word})",
                         f"from t as t read a as ^{word}", f"from t as t group tell sum a as b.^{word}"):
                if not (word == "empty" and text.startswith("from ^")):
                    self.bad_at(read_query, text)
            for text in (f"put ^{word} (1)", f"take ^{word}", f"set ^{word} a to 1", f"set t ^{word} to 1",
                         f"set t a to 1, ^{word} to 2"):
                self.bad_at(read_change, text)
            self.bad_at(read_condition, f"a.^{word} = 1")

    def test_long_names(self):
        self.condition("abcdefghijkl.abcdefghijkl = 1",
                       compare("=", column("abcdefghijkl.abcdefghijkl"), value(1)))
        for text in ("^abcdefghijklm = 1", "a.^abcdefghijklm = 1", "a = ^abcdefghijklm"):
            self.bad_at(read_condition, text)
        self.bad_at(read_change, "take ^abcdefghijklm")

    def test_other_words_are_names(self):
        for name in ("keep", "show", "begin", "a1", "z_", "all", "fro", "froms", "counts", "key", "item"):
            self.condition(f"{name}.{name} = {name}", compare("=", column(f"{name}.{name}"), column(name)))
            self.query(f"from {name} as {name}", ("table", name, name))

    def test_spaces_around_dots(self):
        for text in ("a.b=1", "a . b = 1", "a. b = 1", "a .b = 1", "a\n.\nb\n=\n1", "  a  .  b  =  1  \n"):
            self.condition(text, compare("=", column("a.b"), value(1)))
        self.query("from t as t read t . a as b . c", ("read", T, (("t.a", "b.c"),)))
        self.change("set t a to b . c", ("set", "t", (("a", column("b.c")),), ("true",)))
        self.bad_at(read_condition, "a . b ^. c = 1")


class TestLines(ReaderCase):
    def test_line_feeds(self):
        self.query("from t as t\nwhere a = 1\n\n  read a\n", ("read", ("where", T, A1), (("a", "a"),)))
        self.query("\n\nfrom\nt\nas\nt", T)
        self.change("put t\n(1,\n2)", ("put", "t", ((1, 2),)))

    def test_places_of_errors(self):
        for text in ("from t as t\n  ^wher a = 1", "from t as t\nread\n^", "from t as t where a =\n^", "from\n^\"t\"",
                     "from t as t\nread a,\n b,\n ^", "\n\n   ^", "^", "from t as t\nwhere a = ^\"\n\""):
            self.bad_at(read_query, text)
        self.bad(read_query, "from t as t ?", 1, 13)
        self.bad(read_condition, "a = 1\nor", 2, 3)
        self.bad(read_condition, "a = 1 or\n", 2, 1)

    def test_the_first_wrong_token_counts_before_a_bad_one(self):
        self.bad_at(read_query, "from t as t ^as u ?")
        self.bad_at(read_condition, "a ^b ?")
        self.bad_at(read_condition, "a = 1 ^? b")


class TestChanges(ReaderCase):
    def test_puts(self):
        self.change("put t (1)", ("put", "t", ((1,),)))
        self.change("put t ()", ("put", "t", ((),)))
        self.change("put t (), (1, \"a\"), ()", ("put", "t", ((), (1, "a"), ())))
        self.change('put t (1, -2, none, true, false, "x, (y)")', ("put", "t", ((1, -2, None, True, False, "x, (y)"),)))
        self.change("put t(1),(1)", ("put", "t", ((1,), (1,))))
        row = tuple(range(12))
        self.change(f"put t {row}", ("put", "t", (row,)))

    def test_takes(self):
        self.change("take t", ("take", "t", ("true",)))
        self.change("take t where always", ("take", "t", ("true",)))
        self.change("take t where never", ("take", "t", ("false",)))
        self.change("take t where a = 1 or b = 2", ("take", "t", ("or", A1, B2)))

    def test_sets(self):
        self.change("set t a to 1", ("set", "t", (("a", value(1)),), ("true",)))
        self.change("set t a to b where a = 1", ("set", "t", (("a", column("b")),), A1))
        self.change("set t a to b, b to x.a, a to none where not a = 1",
                    ("set", "t", (("a", column("b")), ("b", column("x.a")), ("a", value(None))), ("not", A1)))
        self.change('set t a to "to"', ("set", "t", (("a", value("to")),), ("true",)))
        self.change("set t a to true", ("set", "t", (("a", value(True)),), ("true",)))

    def test_not_a_change(self):
        for text in (
            "^", "^t", "^from t as t", "^begin", "^where always", "put ^", "put t ^", "put t ^1", "put ^(1)",
            "put t (^",
            "put t (1 ^", "put t (1 ^2)", "put t (1,^)", "put t (^,1)", "put t (^a)", "put t (1)^)", "put t (1),^",
            "put t (1), ^1", "put t (1) ^(2)", "put t ^where always", "put t (1) ^where always", "put t (^always)",
            "put t (^(1))", "put t^.a (1)", "put t (^-)", "put t (1, ^007)",
            "take ^", "take ^where a = 1", "take t ^a = 1", "take t where ^", "take t where a ^", "take t^, u",
            "take t where always ^where always", "take t ^u", "take t^.a", "take ^1", "take t where a = 1 ^(",
            "set ^", "set t ^", "set t ^where always", "set t ^to 1", "set t a ^", "set t a ^= 1", "set t a to ^",
            "set t a^.b to 1", "set t a to ^where always", "set t a to 1 ^b to 2", "set t a to 1,^",
            "set t a to 1, b ^",
            "set t a to ^always", "set t a to ^(1)", "set t a to 1 where ^", "set t a to 1 ^2",
            "set t a to b.^", "set t a to 1, ^where always", "set t ^1 to a", "set t a to 1 ^and b to 2",
            "^puts t (1)", "^read a",
        ):
            self.bad_at(read_change, text)

    def test_each_text_is_of_one_kind(self):
        self.bad(read_query, "put t (1)", 1, 1)
        self.bad(read_query, "a = 1", 1, 1)
        self.bad(read_change, "a = 1", 1, 1)
        self.bad(read_condition, "take t", 1, 1)
        self.bad(read_condition, "from t as t", 1, 1)


# The grammar of point 36. A word in capitals is a kind of token, a word that is a key a part of the grammar; every
# other word is a word or sign of a text.
GRAMMAR = {
    "query": ("from source stages",),
    "source": ("NAME as NAME", "empty ( labels )", "( query )"),
    "stages": ("", "stage stages"),
    "stage": ("with source", "union source", "minus source", "where condition", "read items", "group by labels telling",
              "group tell aggregates", "top COUNT keying"),
    "labels": ("label more_labels",),
    "more_labels": ("", ", labels"),
    "label": ("NAME", "NAME . NAME"),
    "items": ("item", "item , items"),
    "item": ("label", "label as label"),
    "telling": ("", "tell aggregates"),
    "aggregates": ("aggregate", "aggregate , aggregates"),
    "aggregate": ("count as label", "sum label as label", "least label as label", "most label as label"),
    "keying": ("", "by keys"),
    "keys": ("key", "key , keys"),
    "key": ("label", "label up", "label down"),
    "condition": ("both", "both or condition"),
    "both": ("single", "single and both"),
    "single": ("not single", "( condition )", "always", "never", "term op term"),
    "op": ("=", "!=", "<", "<=", ">", ">="),
    "term": ("label", "value"),
    "value": ("NUMBER", "TEXT", "none", "true", "false"),
    "change": ("put NAME rows", "take NAME filter", "set NAME assignments filter"),
    "rows": ("row", "row , rows"),
    "row": ("( )", "( cells )"),
    "cells": ("value", "value , cells"),
    "assignments": ("assignment", "assignment , assignments"),
    "assignment": ("NAME to term",),
    "filter": ("", "where condition"),
}


def opened(stacks):
    """The stacks of what may still come, with a word or a kind of token on top of each; () where the text may end."""
    return {one for stack in stacks for one in opened_one(stack)}


@functools.lru_cache(None)
def opened_one(stack):
    if not stack or stack[0] not in GRAMMAR:
        return frozenset([stack])
    return frozenset(opened([(*choice.split(), *stack[1:]) for choice in GRAMMAR[stack[0]]]))


def takes(wanted, kind, text):
    if wanted == "NAME":
        return kind == "word" and is_name(text)
    if wanted == "COUNT":
        return kind == "number" and not text.startswith("-")
    if wanted in ("NUMBER", "TEXT"):
        return kind == wanted.lower()
    return wanted == text and kind in ("word", "sign")


def first_misfit(part, text):
    """The place (line, column) of the first token that fits nowhere, or None."""
    stacks = opened({(part,)})
    for kind, word, line, column in tokens(text):
        if kind == "end":
            return None if () in stacks else (line, column)
        stacks = fed(stacks, word) if kind != "bad" else set()
        if not stacks:
            return (line, column)
    raise AssertionError("the list of tokens ends neither with an end nor with a bad token")


def fed(stacks, text):
    """The stacks after the tokens of the text."""
    for kind, word, _, _ in tokens(text)[:-1]:
        stacks = opened({stack[1:] for stack in stacks if stack and takes(stack[0], kind, word)})
    return stacks


READERS = (("query", read_query), ("change", read_change), ("condition", read_condition))
TEXTS = (
    ("query", 'from t as t where a.b = 1 or not ( c <= "x" and d != none ) read a as b . c , d'),
    ("query",
     "from t as u with empty ( a , b.c ) group by a , u.b tell count as n , sum b as c top 2 by n down , a up"),
    ("query", "from ( from t as t union u as v ) minus ( from t as t top 0 ) group tell most a as b where always"),
    ("change", 'put t ( 1 , "a" , none ) , ( )'),
    ("change", "take t where a = 1 and ( never or true > -4 )"),
    ("change", "set t a to 1 , b to c.d where not not a < b"),
    ("condition", 'a . b >= "\\\\" or ( ( not x = 0 ) )'),
)
SPOILERS = ("from", "as", "empty", "with", "where", "by", "tell", "count", "sum", "down", "not", "and", "or", "always",
            "none",
            "to", "set", "t", "a.b", "abcdefghijklm", "0", "7", "-7", "007", '"a"', '"', "(", ")", ",", ".", "=", "<=",
            "!",
            "_", "\n", "x y")


class TestSpoiltTexts(ReaderCase):
    def judge(self, part, text):
        """Reading raises BadSyntax with the place that the grammar gives, or nothing."""
        place = first_misfit(part, text)
        read = dict(READERS)[part]
        try:
            read(text)
        except BadSyntax as error:
            self.assertEqual((error.line, error.column), place, text)
        else:
            self.assertIsNone(place, text)
        return place is None

    def test_each_token(self):
        good = 0
        for part, text in TEXTS:
            self.assertTrue(self.judge(part, text))
            words = text.split(" ")
            for at in range(len(words) + 1):
                self.judge(part, " ".join(words[:at]))
                self.judge(part, " ".join(words[:at] + words[at + 1:]))
                self.judge(part, "\n".join(words[:at] + words[at - 1:]))
                for spoiler in SPOILERS:
                    good += self.judge(part, " ".join([*words[:at], spoiler, *words[at:]]))
                    good += self.judge(part, " ".join([*words[:at], spoiler, *words[at + 1:]]))
        self.assertGreater(good, 100)

    def test_the_text_of_another_part(self):
        for _, text in TEXTS:
            for part, _ in READERS:
                self.judge(part, text)

    def test_drawn_words(self):
        draw = random.Random(36)
        words = [word for _, text in TEXTS for word in text.split(" ")]
        for part, _ in READERS:
            for _ in range(250):
                taken = [draw.choice(words) for _ in range(draw.randrange(12))]
                self.judge(part, self.viable(part, draw, words) + " ".join(taken))

    def viable(self, part, draw, words):
        """A beginning of a text, grown word by word as long as it fits."""
        stacks = opened({(part,)})
        taken = []
        for _ in range(draw.randrange(100)):
            word = draw.choice(words)
            after = fed(stacks, word)
            if after and (word != "(" or taken.count("(") < 8):
                stacks = after
                taken.append(word + draw.choice((" ", " ", "\n")))
        return "".join(taken)


if __name__ == "__main__":
    unittest.main()
