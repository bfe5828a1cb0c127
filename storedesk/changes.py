"""What a change does to a book."""

from storedesk.books import check_keys, check_references, rows_of, sorted_by_key
from storedesk.conditions import holds, labels_of
from storedesk.deltas import difference
from storedesk.errors import NoColumn, Repeated
from storedesk.schemas import check_rows, column_names, definition_of


def change_delta(schema, book, change):
    """Return the delta that leads from the book to the one that the change makes of it."""
    definition = definition_of(schema, change[1])
    rows = _rows_after(definition, rows_of(book, change[1]), change)
    ordered = sorted_by_key(definition, rows)
    check_keys(definition, ordered)
    result = tuple([(name, tuple(ordered) if name == change[1] else old) for name, old in book])
    check_references(schema, result)
    return difference(schema, book, result)


def _rows_after(definition, rows, change):
    """Return the rows that the table has after the change, in any order; two of them may have the same key."""
    if change[0] == "put":
        check_rows(definition, change[2])
        return [*rows, *change[2]]
    names = column_names(definition)
    if change[0] == "take":
        _check_labels(names, labels_of(change[2]))
        return [row for row in rows if not holds(change[2], names, row)]
    assignments, condition = change[2:]
    _check_labels(names, _assigned_labels(assignments) + labels_of(condition))
    _check_repeated([column for column, _ in assignments])
    changed = [_assigned(names, row, assignments) for row in rows if holds(condition, names, row)]
    check_rows(definition, changed)
    return changed + [row for row in rows if not holds(condition, names, row)]


def _assigned_labels(assignments):
    labels = []
    for column, term in assignments:
        labels.append(column)
        if term[0] == "column":
            labels.append(term[1])
    return labels


def _check_labels(names, labels):
    for label in labels:
        if label not in names:
            raise NoColumn(label)


def _check_repeated(columns):
    for at, column in enumerate(columns):
        if column in columns[:at]:
            raise Repeated(column)


def _assigned(names, row, assignments):
    """Return the row with the values that are assigned; each is taken from the row as it was."""
    values = list(row)
    for column, term in assignments:
        values[names.index(column)] = row[names.index(term[1])] if term[0] == "column" else term[1]
    return tuple(values)
