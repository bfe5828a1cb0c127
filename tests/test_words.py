"""Point 35: the tokens of a text."""

import itertools
import random
import re
import unittest

from storedesk.values import RESERVED
from storedesk.words import tokens
from tests.support import StoreCase

SIGNS = ("(", ")", ",", ".", "=", "!=", "<", "<=", ">", ">=")


def words(*texts):
    """Tokens on one line, each written as kind:text or None for a bad one, without their places."""
    return [("bad", "") if text is None else tuple(text.split(":", 1)) for text in texts]


class TestTokens(StoreCase):
    def check(self, text, *wanted):
        self.assertCall(tokens, {"text": text}, list(wanted))

    def kinds(self, text, *wanted):
        found = [token[:2] for token in tokens(text)]
        ending = [] if wanted[-1:] == (None,) else [("end", "")]
        self.assertSame(found, words(*wanted) + ending, text)

    def test_examples(self):
        self.check("o.id<=-4", ("word", "o", 1, 1), ("sign", ".", 1, 2), ("word", "id", 1, 3), ("sign", "<=", 1, 5),
                   ("number", "-4", 1, 7), ("end", "", 1, 9))
        self.check("a\n 07", ("word", "a", 1, 1), ("bad", "", 2, 2))

    def test_end(self):
        self.check("", ("end", "", 1, 1))
        self.check(" ", ("end", "", 1, 2))
        self.check("   ", ("end", "", 1, 4))
        self.check("\n", ("end", "", 2, 1))
        self.check("\n\n  ", ("end", "", 3, 3))
        self.check("a", ("word", "a", 1, 1), ("end", "", 1, 2))
        self.check("a\n", ("word", "a", 1, 1), ("end", "", 2, 1))
        self.check("ab  \n", ("word", "ab", 1, 1), ("end", "", 2, 1))
        self.check("ab  ", ("word", "ab", 1, 1), ("end", "", 1, 5))
        self.check('"a b"', ("text", '"a b"', 1, 1), ("end", "", 1, 6))

    def test_places(self):
        self.check("from t as u\n  where  a.b = 1\n\n(\n", ("word", "from", 1, 1), ("word", "t", 1, 6),
                   ("word", "as", 1, 8), ("word", "u", 1, 11),
                   ("word", "where", 2, 3), ("word", "a", 2, 10), ("sign", ".", 2, 11), ("word", "b", 2, 12),
                   ("sign", "=", 2, 14),
                   ("number", "1", 2, 16), ("sign", "(", 4, 1), ("end", "", 5, 1))
        self.check(" a\n  !", ("word", "a", 1, 2), ("bad", "", 2, 3))
        self.check('a "b\n"', ("word", "a", 1, 1), ("bad", "", 1, 3))
        self.check('"a"\n"b" "\n', ("text", '"a"', 1, 1), ("text", '"b"', 2, 1), ("bad", "", 2, 5))

    def test_chunks(self):
        for text in ("a", "z", "a1", "a_", "from", "none", "x_9_", "abcdefghijklmnopqrstuvwxyz", "e5", *RESERVED):
            self.kinds(text, "word:" + text)
        for text in ("0", "1", "9", "10", "1234567890", "9" * 30, "9" * 1000):
            self.kinds(text, "number:" + text)
        for text in ("_", "_a", "_1", "__", "1a", "0a", "00", "007", "01", "1_", "1_000", "0_", "12ab34", "9z"):
            self.kinds(text, None)
            self.kinds("a " + text + " b", "word:a", None)

    def test_negative_numbers(self):
        for text in ("-1", "-9", "-10", "-907", "-" + "9" * 30):
            self.kinds(text, "number:" + text)
        for text in ("-", "-0", "-00", "-01", "-1a", "-a", "-_", "--1", "- 1", "-\n1", "-.", "-(", "-0a", "-10_",
                     '-"1"'):
            self.kinds(text, None)
        self.kinds("5-3", "number:5", "number:-3")
        self.kinds("5--3", "number:5", None)
        self.kinds("5 - 3", "number:5", None)
        self.kinds("a-1", "word:a", "number:-1")
        self.kinds("a-0", "word:a", None)
        self.kinds("-1-2", "number:-1", "number:-2")
        self.kinds("-1.-2", "number:-1", "sign:.", "number:-2")
        self.check("a -07", ("word", "a", 1, 1), ("bad", "", 1, 3))

    def test_texts(self):
        for text in ('""', '"a"', '" "', '"a b  c"', '"-0"', '"\\""', '"\\\\"', '"\\\\\\""', '"\\"\\\\"', '"a\\"b"',
                     '"()"', "\"'\"", '"!~{}"', '"a=1"', '"A\\\\"'):
            self.kinds(text, "text:" + text)
            self.kinds(text + text, "text:" + text, "text:" + text)
            self.kinds("x" + text + "y", "word:x", "text:" + text, "word:y")
        for text in ('"', '"a', '"a\\"', '"a\\', '"\\', '"\\a"', '"a\\n"', '"a\\ "', '"a\nb"', '"\n"', '"\\\n"', '"""',
                     '"a"b"', '"\\\\\\"'):
            self.assertSame(tokens(text)[-1][:2], ("bad", ""), text)
        for text in ('"', '"a', '"a\\"', '"\\a"', '"a\nb"', '"a\\x" "b"'):
            self.check("x " + text, ("word", "x", 1, 1), ("bad", "", 1, 3))

    def test_signs(self):
        for sign in SIGNS:
            self.kinds(sign, "sign:" + sign)
            self.kinds(f"a{sign}b", "word:a", "sign:" + sign, "word:b")
            self.kinds(f"1{sign}-2", "number:1", "sign:" + sign, "number:-2")
        self.kinds("<==", "sign:<=", "sign:=")
        self.kinds("<<=", "sign:<", "sign:<=")
        self.kinds("<>", "sign:<", "sign:>")
        self.kinds("><=", "sign:>", "sign:<=")
        self.kinds(">==", "sign:>=", "sign:=")
        self.kinds("=>", "sign:=", "sign:>")
        self.kinds("==", "sign:=", "sign:=")
        self.kinds("=!=", "sign:=", "sign:!=")
        self.kinds("!==", "sign:!=", "sign:=")
        self.kinds("< =", "sign:<", "sign:=")
        self.kinds("! =", None)
        self.kinds("!", None)
        self.kinds("!!=", None)
        self.kinds("!<", None)
        self.kinds("(),..", "sign:(", "sign:)", "sign:,", "sign:.", "sign:.")
        self.check("a>=b", ("word", "a", 1, 1), ("sign", ">=", 1, 2), ("word", "b", 1, 4), ("end", "", 1, 5))

    def test_other_characters(self):
        for mark in "ABZ!#$&'*+/:;?@[\\]^`{|}~":
            self.kinds(mark, None)
            self.check(f"a {mark} b", ("word", "a", 1, 1), ("bad", "", 1, 3))
            self.check(f"a{mark}", ("word", "a", 1, 1), ("bad", "", 1, 2))
        self.kinds("aB", "word:a", None)

    def test_bad_token_ends_the_list(self):
        self.check('a ? "', ("word", "a", 1, 1), ("bad", "", 1, 3))
        self.check("? a", ("bad", "", 1, 1))
        self.check("007\n!", ("bad", "", 1, 1))

    def test_a_large_text(self):
        self.check("a" * 1500, ("word", "a" * 1500, 1, 1), ("end", "", 1, 1501))
        self.check("a\n" * 750, *[("word", "a", line, 1) for line in range(1, 751)], ("end", "", 751, 1))
        self.check("(" * 8 + ")" * 8, *[("sign", "()"[at // 8], 1, at + 1) for at in range(16)], ("end", "", 1, 17))


PATTERN = re.compile(
    r"(?P<space>[ \n]+)|(?P<number>(?:0|-?[1-9][0-9]*)(?![a-z0-9_]))|(?P<word>[a-z][a-z0-9_]*)"
    r'|(?P<text>"(?:[ !#-\[\]-~]|\\["\\])*")'
    r"|(?P<sign>[!<>]=|[(),.=<>])|(?P<bad>[\s\S])"
)


def plain_tokens(text):
    found = []
    line, column, at = 1, 1, 0
    while at < len(text):
        match = PATTERN.match(text, at)
        if match.lastgroup != "space":
            found.append((match.lastgroup, "" if match.lastgroup == "bad" else match.group(), line, column))
        if match.lastgroup == "bad":
            return found
        for mark in match.group():
            line, column = (line + 1, 1) if mark == "\n" else (line, column + 1)
        at = match.end()
    return [*found, ("end", "", line, column)]


class TestAnyTexts(StoreCase):
    def test_short_texts(self):
        for size in range(1, 5):
            for marks in itertools.product('a0_1-"\\ \n=<!.', repeat=size):
                text = "".join(marks)
                found = tokens(text)
                if found != plain_tokens(text):
                    self.assertSame(found, plain_tokens(text), text)

    def test_long_texts(self):
        draw = random.Random(35)
        pieces = ["a", "from", "x_1", "0", "7", "12", "-3", "-", "<", "<=", ">", ">=", "=", "!=", ".", ",", " ", " ",
                  "\n", '"a b"', '""', '"\\""', '"\\\\"']
        for _ in range(400):
            text = "".join([draw.choice(pieces) for _ in range(draw.randrange(30))])
            self.assertSame(tokens(text), plain_tokens(text), text)


if __name__ == "__main__":
    unittest.main()
