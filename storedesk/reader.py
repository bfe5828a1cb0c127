"""Reading queries, changes and conditions from texts."""

from storedesk.errors import BadSyntax
from storedesk.values import is_name, read_value
from storedesk.words import tokens

CONSTANTS = ("none", "true", "false")
OPS = ("=", "!=", "<", "<=", ">", ">=")


class Reader:
    """The tokens of a text and the place of the next one to be read.

    At each place it is plain from the next token alone how to go on. So the first token that is not taken is the
    first one that fits nowhere.
    """

    def __init__(self, text):
        self.found = tokens(text)
        self.at = 0

    def kind(self):
        """Return the kind of the next token."""
        return self.found[self.at][0]

    def sight(self):
        """Return the text of the next token, which is "" for the end and for a bad token only."""
        return self.found[self.at][1]

    def refuse(self):
        """Raise the error for a next token that fits nowhere."""
        _, _, line, column = self.found[self.at]
        raise BadSyntax(line, column)

    def advance(self):
        """Take the next token and return its text."""
        text = self.sight()
        self.at += 1
        return text

    def meets(self, text):
        """Take the next token if it has this text, and tell whether it has."""
        if self.sight() != text:
            return False
        self.at += 1
        return True

    def expect(self, text):
        """Take the next token, which must have this text."""
        if not self.meets(text):
            self.refuse()

    def choose(self, texts):
        """Take the next token, which must have one of these texts, and return its text."""
        if self.sight() not in texts:
            self.refuse()
        return self.advance()

    def finish(self):
        """See to it that nothing is left but the end."""
        if self.kind() != "end":
            self.refuse()


def read_query(text):
    """Return the tree of a query."""
    reader = Reader(text)
    tree = _query(reader)
    reader.finish()
    return tree


def read_change(text):
    """Return the change of the text."""
    reader = Reader(text)
    word = reader.choose(("put", "take", "set"))
    table = _name(reader)
    if word == "put":
        change = (word, table, _listed(reader, _row))
    elif word == "take":
        change = (word, table, _where(reader))
    else:
        change = (word, table, _listed(reader, _assignment), _where(reader))
    reader.finish()
    return change


def read_condition(text):
    """Return the condition of the text."""
    reader = Reader(text)
    condition = _condition(reader)
    reader.finish()
    return condition


def _listed(reader, part):
    """Return the tuple of one or more things that `part` reads, with commas between them."""
    things = [part(reader)]
    while reader.meets(","):
        things.append(part(reader))
    return tuple(things)


def _name(reader):
    if not is_name(reader.sight()):
        reader.refuse()
    return reader.advance()


def _label(reader):
    name = _name(reader)
    if reader.meets("."):
        return name + "." + _name(reader)
    return name


def _value(reader):
    if not _at_value(reader):
        reader.refuse()
    return read_value(reader.advance())


def _at_value(reader):
    return reader.kind() in ("number", "text") or reader.sight() in CONSTANTS


def _count(reader):
    if reader.kind() != "number" or reader.sight().startswith("-"):
        reader.refuse()
    return read_value(reader.advance())


def _query(reader):
    reader.expect("from")
    tree = _source(reader)
    while reader.sight() in STAGES:
        stage = STAGES[reader.sight()]
        tree = stage(reader, reader.advance(), tree)
    return tree


def _source(reader):
    if reader.meets("("):
        tree = _query(reader)
        reader.expect(")")
        return tree
    if reader.meets("empty"):
        reader.expect("(")
        labels = _listed(reader, _label)
        reader.expect(")")
        return ("empty", labels)
    table = _name(reader)
    reader.expect("as")
    return ("table", table, _name(reader))


# Each stage is read by a function of the reader, the stage's word, which has been taken, and the tree so far.


def _pair_stage(reader, _, tree):
    return ("pair", tree, _source(reader))


def _sides_stage(reader, word, tree):
    return (word, tree, _source(reader))


def _where_stage(reader, word, tree):
    return (word, tree, _condition(reader))


def _read_stage(reader, word, tree):
    return (word, tree, _listed(reader, _item))


def _group_stage(reader, word, tree):
    by = ()
    aggregates = ()
    if reader.meets("by"):
        by = _listed(reader, _label)
        if reader.meets("tell"):
            aggregates = _listed(reader, _aggregate)
    else:
        reader.expect("tell")
        aggregates = _listed(reader, _aggregate)
    return (word, tree, by, aggregates)


def _top_stage(reader, word, tree):
    count = _count(reader)
    keys = _listed(reader, _key) if reader.meets("by") else ()
    return (word, tree, keys, count)


STAGES = {
    "with": _pair_stage,
    "union": _sides_stage,
    "minus": _sides_stage,
    "where": _where_stage,
    "read": _read_stage,
    "group": _group_stage,
    "top": _top_stage,
}


def _item(reader):
    label = _label(reader)
    return (label, _label(reader) if reader.meets("as") else label)


def _aggregate(reader):
    word = reader.choose(("count", "sum", "least", "most"))
    label = None if word == "count" else _label(reader)
    reader.expect("as")
    return (word, label, _label(reader))


def _key(reader):
    label = _label(reader)
    if reader.meets("down"):
        return (label, "down")
    reader.meets("up")
    return (label, "up")


def _condition(reader):
    condition = _both(reader)
    while reader.meets("or"):
        condition = ("or", condition, _both(reader))
    return condition


def _both(reader):
    condition = _single(reader)
    while reader.meets("and"):
        condition = ("and", condition, _single(reader))
    return condition


def _single(reader):
    # A loop, since a text that is refused in the end may have hundreds of these words.
    nots = 0
    while reader.meets("not"):
        nots += 1
    condition = _operand(reader)
    for _ in range(nots):
        condition = ("not", condition)
    return condition


def _operand(reader):
    if reader.meets("("):
        condition = _condition(reader)
        reader.expect(")")
        return condition
    if reader.meets("always"):
        return ("true",)
    if reader.meets("never"):
        return ("false",)
    left = _term(reader)
    op = reader.choose(OPS)
    return ("compare", op, left, _term(reader))


def _term(reader):
    if _at_value(reader):
        return ("value", _value(reader))
    return ("column", _label(reader))


def _where(reader):
    """Return the condition of a change."""
    return _condition(reader) if reader.meets("where") else ("true",)


def _row(reader):
    reader.expect("(")
    row = () if reader.sight() == ")" else _listed(reader, _value)
    reader.expect(")")
    return row


def _assignment(reader):
    column = _name(reader)
    reader.expect("to")
    return (column, _term(reader))
