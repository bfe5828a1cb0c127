"""Deltas: what leads from one book to another."""

from storedesk.books import check_references, keyed_rows, rows_of
from storedesk.errors import Mismatch
from storedesk.schemas import check_placed, definition_of, key_of
from storedesk.values import row_key, same


def difference(schema, old, new):
    """Return the delta that leads from the book old to the book new."""
    edits = []
    for definition in schema:
        before = keyed_rows(definition, rows_of(old, definition[0]))
        after = keyed_rows(definition, rows_of(new, definition[0]))
        for place in sorted(set(list(before) + list(after))):
            edit = _edit_between(definition, before.get(place), after.get(place))
            edits.append(edit)
    return delta_of(edits)


def _edit_between(definition, before, after):
    row = after if before is None else before
    return (definition[0], key_of(definition, row), before, after)


def delta_of(edits):
    """Return the delta of those edits that change something; there is one at most for each table and key."""
    changing = [edit for edit in edits if not same(edit[2], edit[3])]
    return tuple(sorted(changing, key=edit_place))


def edit_place(edit):
    """Return a pair by which edits are ordered, and which is equal for the same table and key only."""
    return (edit[0], row_key(edit[1]))


def apply_delta(schema, book, delta, *, references=True):
    """Return the book to which the delta leads from this one."""
    check_placed(_rows_after(schema, delta))
    result = edited_book(schema, book, delta)
    if references:
        check_references(schema, result)
    return result


def edited_book(schema, book, delta):
    """Return the book to which the delta leads, or raise Mismatch; nothing else is checked."""
    tables = {definition[0]: keyed_rows(definition, rows_of(book, definition[0])) for definition in schema}
    _check_before(tables, delta)
    for table, key, _, after in delta:
        if after is None:
            del tables[table][row_key(key)]
        else:
            tables[table][row_key(key)] = after
    return tuple([(definition[0], _in_order(tables[definition[0]])) for definition in schema])


def _rows_after(schema, delta):
    """Return the pairs (definition, row) of the rows that the delta brings."""
    definitions = [definition_of(schema, edit[0]) for edit in delta]
    return [(definition, edit[3]) for definition, edit in zip(definitions, delta) if edit[3] is not None]


def _check_before(tables, delta):
    for table, key, before, _ in delta:
        if not same(tables[table].get(row_key(key)), before):
            raise Mismatch(table, key)


def _in_order(keyed):
    return tuple([keyed[place] for place in sorted(keyed)])


def inverse(delta):
    """Return the delta that leads back."""
    return tuple([(table, key, after, before) for table, key, before, after in delta])


def combined(*deltas):
    """Return the delta that does all these deltas one after another."""
    edits = {}
    for delta in deltas:
        for edit in delta:
            place = edit_place(edit)
            edits[place] = _joined(edits.get(place), edit)
    return delta_of(list(edits.values()))


def _joined(first, second):
    """Return the edit that does both edits of one key; first may be None."""
    if first is None:
        return second
    table, key, before, between = first
    if not same(between, second[2]):
        raise Mismatch(table, key)
    return (table, key, before, second[3])


def tables_touched(delta):
    """Return the names of the tables that have an edit, ascending, each once."""
    return sorted(set([edit[0] for edit in delta]))
