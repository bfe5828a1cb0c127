"""Schemas: what a definition of a table must be, and which rows fit it."""

from storedesk.conditions import holds, labels_of
from storedesk.errors import BadKind, BadSchema, BadWidth, CheckFailed, NoTable
from storedesk.values import is_name, kind_of, same

KINDS = ("truth", "number", "text", "truth?", "number?", "text?", "any")


def fits(kind, value):
    """Tell whether the kind of column allows the value."""
    if kind == "any":
        return True
    if kind.endswith("?"):
        return kind_of(value) in ("none", kind[:-1])
    return kind_of(value) == kind


def check_schema(schema):
    """Raise BadSchema for the first definition that breaks a rule, with the first rule that it breaks."""
    for at, definition in enumerate(schema):
        rule = _broken_rule(schema, at, definition)
        if rule is not None:
            raise BadSchema(at, rule)


def _broken_rule(schema, at, definition):
    name, columns, key, references, checks = definition
    names = column_names(definition)
    if not is_name(name) or name in [earlier[0] for earlier in schema[:at]]:
        return "name"
    if not _are_columns(columns):
        return "columns"
    if not _is_key(key, names):
        return "key"
    if not all([_is_reference(schema, names, reference) for reference in references]):
        return "references"
    if not all([label in names for check in checks for label in labels_of(check)]):
        return "checks"
    return None


# The things in a definition may be any values, but the rules are tried in their order: once the names of the
# columns are known to be texts, `in` and `count` find in them only what is the same.


def _are_columns(columns):
    names = [name for name, _ in columns]
    if len(columns) == 0 or not all([is_name(name) for name in names]):
        return False
    return all([names.count(name) == 1 for name in names]) and all([kind in KINDS for _, kind in columns])


def _is_key(key, names):
    return len(key) > 0 and all([name in names and key.count(name) == 1 for name in key])


def _is_reference(schema, names, reference):
    columns, table = reference
    widths = [len(definition[2]) for definition in schema if same(definition[0], table)]
    if not all([name in names for name in columns]):
        return False
    return len(widths) > 0 and len(columns) == widths[0]


def definition_of(schema, table):
    """Return the definition of the table with this name."""
    for definition in schema:
        if definition[0] == table:
            return definition
    raise NoTable(table)


def column_names(definition):
    """Return the names of the table's columns."""
    return tuple([name for name, _ in definition[1]])


def key_of(definition, row):
    """Return the values of the row in the key columns."""
    return picked(definition, row, definition[2])


def picked(definition, row, columns):
    """Return the values of the row in these columns of its table."""
    names = column_names(definition)
    return tuple([row[names.index(name)] for name in columns])


def check_rows(definition, rows):
    """Raise the error of the first row that does not fit the table."""
    check_placed([(definition, row) for row in rows])


def check_placed(placed):
    """Raise the error of the first pair (definition, row) whose row does not fit its table.

    All pairs are tried for one kind of error before any is tried for the next.
    """
    for definition, row in placed:
        if len(row) != len(definition[1]):
            raise BadWidth(definition[0], row)
    for definition, row in placed:
        _check_kinds(definition, row)
    for definition, row in placed:
        _check_checks(definition, row)


def _check_kinds(definition, row):
    for column, value in zip(definition[1], row):
        name, kind = column
        if not fits(kind, value):
            raise BadKind(definition[0], name)


def _check_checks(definition, row):
    names = column_names(definition)
    for at, check in enumerate(definition[4]):
        if not holds(check, names, row):
            raise CheckFailed(definition[0], at)
