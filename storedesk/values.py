"""Values and rows: their order, their written forms, names, and bags of rows."""

from storedesk.errors import BadText

RESERVED = (
    "from", "as", "empty", "with", "where", "read", "group", "by", "tell", "union", "minus", "top",
    "up", "down", "count", "sum", "least", "most", "not", "and", "or", "always", "never", "none",
    "true", "false", "put", "take", "set", "to",
)

LETTERS = "abcdefghijklmnopqrstuvwxyz"
DIGITS = "0123456789"
LONGEST_NAME = 12
PERCENT = 37


def kind_of(value):
    """Return "none", "truth", "number" or "text"."""
    if value is None:
        return "none"
    if value is True or value is False:
        return "truth"
    if isinstance(value, int):
        return "number"
    return "text"


def sort_key(value):
    """Return a pair by which values are ordered, and which is equal for the same values only."""
    kind = kind_of(value)
    if kind == "none":
        return (0, 0)
    if kind == "truth":
        return (1, 1 if value else 0)
    if kind == "number":
        return (2, value)
    return (3, value)


def row_key(row):
    """Return the sort keys of the row's values; unlike the row, they may be compared and be a dict's key."""
    return tuple([sort_key(value) for value in row])


def compare(left, right):
    """Return -1 if the value left comes first, 1 if right does, 0 if they are the same."""
    return _order(sort_key(left), sort_key(right))


def compare_rows(left, right):
    """Return -1, 1 or 0 for two rows, as compare does for values."""
    return _order(row_key(left), row_key(right))


def _order(left, right):
    if left == right:
        return 0
    return -1 if left < right else 1


def same(left, right):
    """Tell whether two values or tuples are the same; Python's == takes True for 1."""
    if isinstance(left, tuple) != isinstance(right, tuple):
        return False
    if not isinstance(left, tuple):
        return sort_key(left) == sort_key(right)
    if len(left) != len(right):
        return False
    for one, other in zip(left, right):
        if not same(one, other):
            return False
    return True


def sorted_rows(rows):
    """Return the rows in ascending order."""
    return sorted(rows, key=row_key)


def is_name(thing):
    """Tell whether thing is a text that is a name."""
    if not isinstance(thing, str) or not 1 <= len(thing) <= LONGEST_NAME:
        return False
    return thing[0] in LETTERS and all([is_chunk_mark(mark) for mark in thing]) and thing not in RESERVED


def is_chunk_mark(mark):
    """Tell whether the character may stand within a name."""
    return mark in LETTERS or mark in DIGITS or mark == "_"


def is_label(thing):
    """Tell whether thing is a text that is a label: a name, or two with a dot between them."""
    if not isinstance(thing, str):
        return False
    parts = thing.split(".")
    return len(parts) <= 2 and all([is_name(part) for part in parts])


def write_value(value):
    """Return the written form of the value."""
    kind = kind_of(value)
    if kind == "none":
        return "none"
    if kind == "truth":
        return "true" if value else "false"
    if kind == "number":
        return str(value)
    return '"' + value.replace("\\", "\\\\").replace('"', '\\"') + '"'


def write_row(row):
    """Return the written form of the row."""
    return "(" + ", ".join([write_value(value) for value in row]) + ")"


def read_value(text):
    """Return the value whose written form the text is."""
    value, end = _value_at(text, 0)
    if end < len(text):
        raise BadText(end)
    return value


def read_row(text):
    """Return the row whose written form the text is."""
    row, end = _row_of(text)
    if end < len(text):
        raise BadText(end)
    return row


# Each of the following functions returns what stands in the text from a place on, and the place behind it, or
# raises BadText with the first place that fits nowhere. Up to there the text could always have gone on well.


def _row_of(text):
    end = _end_of("(", text, 0)
    values = []
    if text[end:end + 1] != ")":
        value, end = _value_at(text, end)
        values.append(value)
        while text[end:end + 1] == ",":
            value, end = _value_at(text, _end_of(", ", text, end))
            values.append(value)
    return tuple(values), _end_of(")", text, end)


def _value_at(text, at):
    mark = text[at:at + 1]
    if mark == '"':
        return text_at(text, at)
    if mark == "-":
        return _number_at(text, at, at + 1)
    if mark == "0":
        return 0, at + 1
    if mark == "n":
        return None, _end_of("none", text, at)
    if mark == "t":
        return True, _end_of("true", text, at)
    if mark == "f":
        return False, _end_of("false", text, at)
    return _number_at(text, at, at)


def _end_of(word, text, at):
    for step, mark in enumerate(word):
        if text[at + step:at + step + 1] != mark:
            raise BadText(at + step)
    return at + len(word)


def _number_at(text, at, first):
    """Read a number other than 0 that begins at `at`, and whose digits begin at `first`."""
    end = first
    while end < len(text) and text[end] in DIGITS:
        end += 1
    if end == first or text[first] == "0":
        raise BadText(first)
    return int(text[at:end]), end


def text_at(text, at):
    """Read the text whose opening quote stands at `at`."""
    marks = []
    end = at + 1
    while text[end:end + 1] != '"':
        if text[end:end + 1] == "\\":
            end += 1
            if text[end:end + 1] not in ('"', "\\"):
                raise BadText(end)
        elif not _is_plain(text[end:end + 1]):
            raise BadText(end)
        marks.append(text[end])
        end += 1
    return "".join(marks), end + 1


def _is_plain(mark):
    return " " <= mark <= "~" and ord(mark) != PERCENT


class Bag:
    """Rows, each with the number of times that it occurs; a Bag never changes."""

    def __init__(self, rows=()):
        ordered = sorted_rows(rows)
        counts = {}
        for row in ordered:
            key = row_key(row)
            counts[key] = counts.get(key, 0) + 1
        self._rows = tuple(ordered)
        self._counts = counts

    @classmethod
    def counted(cls, pairs):
        """Return the Bag of pairs (row, number of times)."""
        rows = []
        for row, times in pairs:
            rows.extend([row] * times)
        return cls(rows)

    @property
    def rows(self):
        """The rows in ascending order, each as often as it occurs."""
        return list(self._rows)

    @property
    def pairs(self):
        """The pairs (row, number of times), ascending by row."""
        pairs = []
        for row in self._rows:
            if not pairs or not same(pairs[-1][0], row):
                pairs.append((row, self._counts[row_key(row)]))
        return pairs

    def many(self, row):
        """Return the number of times that the row occurs."""
        return self._counts.get(row_key(row), 0)

    def __add__(self, other):
        return Bag([*self._rows, *other._rows])

    def __sub__(self, other):
        rows = []
        for row, times in self.pairs:
            rows.extend([row] * max(0, times - other._counts.get(row_key(row), 0)))
        return Bag(rows)

    def __len__(self):
        return len(self._rows)

    def __contains__(self, row):
        return row_key(row) in self._counts

    def __bool__(self):
        return len(self._rows) > 0

    def __iter__(self):
        return iter(self._rows)
