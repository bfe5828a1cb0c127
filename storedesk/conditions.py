"""Conditions over the columns of a row."""

from storedesk.values import compare, same, sort_key

FLIPPED = {"=": "=", "!=": "!=", "<": ">", "<=": ">=", ">": "<", ">=": "<="}
OPPOSITE = {"=": "!=", "!=": "=", "<": ">=", "<=": ">", ">": "<=", ">=": "<"}


def compared(op, left, right):
    """Tell whether the comparison of two values holds."""
    order = compare(left, right)
    if op == "=":
        return order == 0
    if op == "!=":
        return order != 0
    if op == "<":
        return order < 0
    if op == "<=":
        return order <= 0
    if op == ">":
        return order > 0
    return order >= 0


def labels_of(condition):
    """Return the labels in the condition from left to right, each once."""
    labels = []
    seen = {}
    for label in _every_label(condition):
        # A label need not be a text here: check_schema judges conditions that may be wrong.
        key = sort_key(label)
        if key not in seen:
            seen[key] = True
            labels.append(label)
    return labels


def _every_label(condition):
    if condition[0] == "compare":
        return [term[1] for term in condition[2:] if term[0] == "column"]
    labels = []
    for part in condition[1:]:
        labels.extend(_every_label(part))
    return labels


def holds(condition, columns, row):
    """Tell whether the condition holds for the row with these columns."""
    word = condition[0]
    if word == "compare":
        return compared(condition[1], _worth(condition[2], columns, row), _worth(condition[3], columns, row))
    if word == "not":
        return not holds(condition[1], columns, row)
    if word == "and":
        return holds(condition[1], columns, row) and holds(condition[2], columns, row)
    if word == "or":
        return holds(condition[1], columns, row) or holds(condition[2], columns, row)
    return word == "true"


def _worth(term, columns, row):
    if term[0] == "column":
        return row[columns.index(term[1])]
    return term[1]


def conjuncts(condition):
    """Return the conditions that must all hold for the condition to hold."""
    if condition[0] == "and":
        return conjuncts(condition[1]) + conjuncts(condition[2])
    if condition[0] == "true":
        return []
    return [condition]


def conjoined(conditions):
    """Return one condition that holds if all of these hold."""
    if len(conditions) == 0:
        return ("true",)
    joined = conditions[0]
    for condition in conditions[1:]:
        joined = ("and", joined, condition)
    return joined


def renamed(condition, names):
    """Return the condition with the labels replaced that are keys of the dict names."""
    if condition[0] == "compare":
        left = _renamed_term(condition[2], names)
        right = _renamed_term(condition[3], names)
        return ("compare", condition[1], left, right)
    parts = [renamed(part, names) for part in condition[1:]]
    return (condition[0], *parts)


def _renamed_term(term, names):
    if term[0] == "column":
        return ("column", names.get(term[1], term[1]))
    return term


def folded(condition):
    """Return a simpler condition that holds for the same rows."""
    word = condition[0]
    if word == "compare":
        return _folded_comparison(condition)
    if word == "not":
        return _folded_not(condition[1])
    if word == "and":
        return _folded_pair("and", folded(condition[1]), folded(condition[2]), ("true",), ("false",))
    if word == "or":
        return _folded_pair("or", folded(condition[1]), folded(condition[2]), ("false",), ("true",))
    return condition


def _folded_comparison(condition):
    op, left, right = condition[1:]
    if left[0] == "value" and right[0] == "value":
        return _constant(compared(op, left[1], right[1]))
    if left[0] == "column" and right[0] == "column" and left[1] == right[1]:
        return _constant(op in ("=", "<=", ">="))
    if left[0] == "value":
        return _flipped(condition)
    return condition


def _constant(truth):
    return ("true",) if truth else ("false",)


def _flipped(condition):
    op, left, right = condition[1:]
    return ("compare", FLIPPED[op], right, left)


def _folded_not(condition):
    word = condition[0]
    if word == "compare":
        op, left, right = condition[1:]
        return _folded_comparison(("compare", OPPOSITE[op], left, right))
    if word == "not":
        return folded(condition[1])
    if word == "and":
        return folded(("or", ("not", condition[1]), ("not", condition[2])))
    if word == "or":
        return folded(("and", ("not", condition[1]), ("not", condition[2])))
    return _constant(word == "false")


def _folded_pair(word, left, right, idle, final):
    """Fold an "and" or "or": `idle` beside a part leaves the part, `final` decides the whole."""
    if left == final or right == final:
        return final
    if left == idle:
        return right
    if right == idle or same(left, right):
        return left
    return (word, left, right)


def interval(condition, label):
    """Return the pair (low, high) that the conjuncts set for the column, () where there is no limit."""
    low = ()
    high = ()
    for conjunct in conjuncts(condition):
        if not _is_limit(conjunct, label):
            continue
        op, value = _limit(conjunct)
        if op in ("=", ">", ">=") and (low == () or compare(value, low[0]) > 0):
            low = (value,)
        if op in ("=", "<", "<=") and (high == () or compare(value, high[0]) < 0):
            high = (value,)
    return low, high


def _is_limit(conjunct, label):
    """Tell whether the conjunct compares the column with a value."""
    if conjunct[0] != "compare":
        return False
    left, right = conjunct[2:]
    column = ("column", label)
    return (left == column and right[0] == "value") or (left[0] == "value" and right == column)


def _limit(conjunct):
    """Return the op and the value of a comparison of a column with a value, as it is with the column on the left."""
    op, left, right = conjunct[1:]
    if left[0] == "value":
        return FLIPPED[op], left[1]
    return op, right[1]
