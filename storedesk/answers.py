"""The plain answers of trees over books."""

from storedesk.books import rows_of
from storedesk.conditions import holds
from storedesk.trees import children, columns_of
from storedesk.values import Bag, kind_of, row_key, sort_key, sorted_rows


def group_rows(rows, columns, by, aggregates):
    """Return the rows of a group node whose part has these rows and columns."""
    groups = {} if len(by) > 0 else {(): []}
    for row in rows:
        groups.setdefault(row_key(_picked(row, columns, by)), []).append(row)
    return sorted_rows([_group_row(members, columns, by, aggregates) for members in groups.values()])


def _picked(row, columns, labels):
    return tuple([row[columns.index(label)] for label in labels])


def _group_row(members, columns, by, aggregates):
    """Return the one row for the members of a group, which are none only if `by` is empty."""
    named = () if len(by) == 0 else _picked(members[0], columns, by)
    return (*named, *[_aggregate(members, columns, word, label) for word, label, _ in aggregates])


def _aggregate(members, columns, word, label):
    if word == "count":
        return len(members)
    at = columns.index(label)
    ordered = sorted([row[at] for row in members], key=sort_key)
    if word == "sum":
        return sum([value for value in ordered if kind_of(value) == "number"])
    if len(ordered) == 0:
        return None
    return ordered[0] if word == "least" else ordered[-1]


def top_rows(rows, columns, keys, n):
    """Return the first n rows by the keys, in the order in which a top node takes them."""
    ordered = sorted_rows(rows)
    # Sorting keeps the order of rows that are equal in a key, so the first key comes last.
    for label, way in reversed(keys):
        ordered = _sorted_by(ordered, columns.index(label), way)
    return ordered[:n]


def _sorted_by(rows, at, way):
    if way == "down":
        return sorted(rows, key=lambda row: sort_key(row[at]), reverse=True)
    return sorted(rows, key=lambda row: sort_key(row[at]))


def answer_node(schema, tree, parts):
    """Return the answer of a tree that is no table node, where parts is a list with the answer of each part."""
    if tree[0] == "top":
        return sorted_rows(_taken(schema, tree, parts[0]))
    return sorted_rows(_node_rows(schema, tree, parts))


def _taken(schema, tree, rows):
    """Return what a top node takes from the rows of its part."""
    return top_rows(rows, columns_of(schema, tree[1]), tree[2], tree[3])


def _node_rows(schema, tree, parts):
    word = tree[0]
    if word == "empty":
        return []
    if word == "pair":
        return [left + right for left in parts[0] for right in parts[1]]
    if word == "union":
        return parts[0] + parts[1]
    if word == "minus":
        return (Bag(parts[0]) - Bag(parts[1])).rows
    columns = columns_of(schema, tree[1])
    if word == "where":
        return [row for row in parts[0] if holds(tree[2], columns, row)]
    if word == "read":
        labels = [label for label, _ in tree[2]]
        return [_picked(row, columns, labels) for row in parts[0]]
    return group_rows(parts[0], columns, tree[2], tree[3])


def answer(schema, book, tree):
    """Return the answer of the tree over the book, ascending."""
    columns_of(schema, tree)
    return _answer(schema, book, tree)


def _answer(schema, book, tree):
    if tree[0] == "table":
        return sorted_rows(rows_of(book, tree[1]))
    return answer_node(schema, tree, [_answer(schema, book, part) for part in children(tree)])


def shown(schema, book, tree):
    """Return the answer; that of a top node stands in the order in which the node takes its rows."""
    columns_of(schema, tree)
    if tree[0] == "top":
        return _taken(schema, tree, _answer(schema, book, tree[1]))
    return _answer(schema, book, tree)
