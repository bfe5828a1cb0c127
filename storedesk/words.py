"""The tokens of a text."""

from storedesk.errors import BadText
from storedesk.values import DIGITS, LETTERS, is_chunk_mark, text_at

# A longer sign stands before those that it begins with.
SIGNS = ("!=", "<=", ">=", "(", ")", ",", ".", "=", "<", ">")


def tokens(text):
    """Return the list of the text's tokens, up to the first bad one."""
    found = []
    line = 1
    line_start = 0
    at = 0
    while at < len(text):
        if text[at] == "\n":
            line += 1
            line_start = at + 1
        if text[at] in " \n":
            at += 1
            continue
        kind, end = _token_at(text, at)
        found.append((kind, text[at:end], line, at - line_start + 1))
        if kind == "bad":
            return found
        at = end
    found.append(("end", "", line, at - line_start + 1))
    return found


def _token_at(text, at):
    """Return the kind of the token that begins at `at`, and the place behind it (`at` itself if it is bad)."""
    if is_chunk_mark(text[at]):
        return _chunk_at(text, at)
    if text[at] == "-":
        return _negative_at(text, at)
    if text[at] == '"':
        return _quoted_at(text, at)
    for sign in SIGNS:
        if text[at:at + len(sign)] == sign:
            return "sign", at + len(sign)
    return "bad", at


def _chunk_at(text, at):
    end = _chunk_end(text, at)
    if text[at] in LETTERS:
        return "word", end
    if _is_number(text[at:end]):
        return "number", end
    return "bad", at


def _negative_at(text, at):
    end = _chunk_end(text, at + 1)
    chunk = text[at + 1:end]
    if _is_number(chunk) and chunk != "0":
        return "number", end
    return "bad", at


def _quoted_at(text, at):
    try:
        _, end = text_at(text, at)
    except BadText:
        return "bad", at
    return "text", end


def _chunk_end(text, at):
    end = at
    while end < len(text) and is_chunk_mark(text[end]):
        end += 1
    return end


def _is_number(chunk):
    if chunk == "" or not all([mark in DIGITS for mark in chunk]):
        return False
    return chunk[0] != "0" or chunk == "0"
