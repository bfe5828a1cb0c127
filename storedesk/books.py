"""Books: the rows of all tables of a schema."""

from storedesk.errors import Dangling, KeyTaken, NoTable, RowError
from storedesk.schemas import check_placed, check_rows, definition_of, key_of, picked
from storedesk.values import compare_rows, row_key, same


def empty_book(schema):
    """Return the book without rows."""
    return tuple([(definition[0], ()) for definition in schema])


def make_book(schema, tables):
    """Return the book with the rows of the pairs (table name, rows)."""
    gathered = _gathered(schema, tables)
    check_placed([(definition, row) for definition in schema for row in gathered[definition[0]]])
    pairs = []
    for definition in schema:
        rows = sorted_by_key(definition, gathered[definition[0]])
        check_keys(definition, rows)
        pairs.append((definition[0], tuple(rows)))
    book = tuple(pairs)
    check_references(schema, book)
    return book


def _gathered(schema, tables):
    """Return a dict from each table's name to the list of its rows, in the order given."""
    gathered = {definition[0]: [] for definition in schema}
    for name, rows in tables:
        if name not in gathered:
            raise NoTable(name)
        gathered[name].extend(rows)
    return gathered


def sorted_by_key(definition, rows):
    """Return the list of the rows of the table, ascending by key."""
    return sorted(rows, key=lambda row: row_key(key_of(definition, row)))


def check_keys(definition, rows):
    """Raise KeyTaken for the least key that two of the table's rows have, which are ascending by key."""
    for row, following in zip(rows, rows[1:]):
        key = key_of(definition, row)
        if same(key, key_of(definition, following)):
            raise KeyTaken(definition[0], key)


def check_references(schema, book):
    """Raise Dangling for the first broken reference of the book."""
    for table, reference, key in dangling(schema, book):
        raise Dangling(table, reference, key)


def is_book(schema, book):
    """Tell whether the pairs (text, tuple of rows) are a book of the schema."""
    if [name for name, _ in book] != [definition[0] for definition in schema]:
        return False
    for definition, pair in zip(schema, book):
        if not _are_table_rows(definition, pair[1]):
            return False
    return len(dangling(schema, book)) == 0


def _are_table_rows(definition, rows):
    try:
        check_rows(definition, rows)
    except RowError:
        return False
    keys = [key_of(definition, row) for row in rows]
    return all([compare_rows(key, following) < 0 for key, following in zip(keys, keys[1:])])


def rows_of(book, table):
    """Return the list of the table's rows, ascending by key."""
    for name, rows in book:
        if name == table:
            return list(rows)
    raise NoTable(table)


def row_at(schema, book, table, key):
    """Return the table's row with this key, or None."""
    return keyed_rows(definition_of(schema, table), rows_of(book, table)).get(row_key(key))


def keyed_rows(definition, rows):
    """Return a dict from the row_key of each row's key to the row."""
    return {row_key(key_of(definition, row)): row for row in rows}


def counts_of(book):
    """Return a dict from each table's name to its number of rows."""
    return {name: len(rows) for name, rows in book}


def dangling(schema, book):
    """Return the list of the broken references, (table, reference, key) each, in order."""
    keyed = {definition[0]: keyed_rows(definition, rows_of(book, definition[0])) for definition in schema}
    broken = []
    for definition in schema:
        for row in rows_of(book, definition[0]):
            for at in _broken_references(definition, row, keyed):
                broken.append((definition[0], at, key_of(definition, row)))
    return broken


def _broken_references(definition, row, keyed):
    """Return the indexes of the references that the row breaks; keyed has the keyed rows of each table."""
    broken = []
    for at, reference in enumerate(definition[3]):
        columns, table = reference
        values = picked(definition, row, columns)
        if None not in values and row_key(values) not in keyed[table]:
            broken.append(at)
    return broken
