"""The printed texts of queries, changes and conditions."""

from storedesk.values import write_row, write_value


def write_query(tree, *, lines=False):
    """Return the printed text of the tree; with `lines`, each stage outside of parentheses begins a line."""
    stages = _stages(tree)
    return "\n".join(stages) if lines else " ".join(stages)


def write_change(change):
    """Return the printed text of the change."""
    word, table = change[:2]
    if word == "put":
        return f"put {table} " + ", ".join([write_row(row) for row in change[2]])
    if word == "take":
        return f"take {table}" + _where_text(change[2])
    assignments = [f"{column} to {_term_text(term)}" for column, term in change[2]]
    return f"set {table} " + ", ".join(assignments) + _where_text(change[3])


def _where_text(condition):
    return "" if condition == ("true",) else " where " + write_condition(condition)


def write_condition(condition):
    """Return the printed text of the condition."""
    word = condition[0]
    if word == "true":
        return "always"
    if word == "false":
        return "never"
    if word == "compare":
        return f"{_term_text(condition[2])} {condition[1]} {_term_text(condition[3])}"
    if word == "not":
        return "not " + _operand_text(condition[1], ("and", "or"))
    if word == "and":
        return _operand_text(condition[1], ("or",)) + " and " + _operand_text(condition[2], ("and", "or"))
    return write_condition(condition[1]) + " or " + _operand_text(condition[2], ("or",))


def _operand_text(condition, enclosed):
    """Return the text of the condition, in parentheses if it is of one of the enclosed kinds."""
    text = write_condition(condition)
    return f"({text})" if condition[0] in enclosed else text


def _term_text(term):
    return term[1] if term[0] == "column" else write_value(term[1])


def _stages(tree):
    """Return the texts of the stages from left to right; the first one is the source."""
    stages = []
    node = tree
    while node[0] not in ("table", "empty"):
        stages.append(_stage_text(node))
        node = node[1]
    stages.append("from " + _source_text(node))
    return stages[::-1]


def _source_text(tree):
    if tree[0] == "table":
        return f"{tree[1]} as {tree[2]}"
    if tree[0] == "empty":
        return "empty (" + ", ".join(tree[1]) + ")"
    return f"({write_query(tree)})"


def _stage_text(node):
    word = node[0]
    if word == "pair":
        return "with " + _source_text(node[2])
    if word in ("union", "minus"):
        return f"{word} {_source_text(node[2])}"
    if word == "where":
        return "where " + write_condition(node[2])
    if word == "read":
        return "read " + ", ".join([_item_text(label, out) for label, out in node[2]])
    if word == "group":
        return "group" + _by_text(node[2]) + _tell_text(node[3])
    return f"top {node[3]}" + _by_text([_key_text(label, way) for label, way in node[2]])


def _item_text(label, out):
    return label if label == out else f"{label} as {out}"


def _key_text(label, way):
    return f"{label} down" if way == "down" else label


def _by_text(texts):
    return "" if len(texts) == 0 else " by " + ", ".join(texts)


def _tell_text(aggregates):
    texts = [_aggregate_text(word, label, out) for word, label, out in aggregates]
    return "" if len(texts) == 0 else " tell " + ", ".join(texts)


def _aggregate_text(word, label, out):
    return f"count as {out}" if word == "count" else f"{word} {label} as {out}"
