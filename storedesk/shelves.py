"""A whole book in one page tree, and answers that scan no more of it than they have to."""

from storedesk.answers import answer_node
from storedesk.books import empty_book, rows_of
from storedesk.conditions import conjoined, interval
from storedesk.errors import Mismatch
from storedesk.pagetree import PageTree
from storedesk.schemas import definition_of, key_of
from storedesk.trees import children, columns_of
from storedesk.values import same, sorted_rows


class Shelf:
    """A book whose rows are the entries of a page tree, each under its table's name and its key."""

    def __init__(self, schema, book, *, order=8):
        self._schema = schema
        self._tree = PageTree(order=order)
        self._rows_read = 0
        for definition in schema:
            for row in rows_of(book, definition[0]):
                self._tree.put((definition[0], *key_of(definition, row)), row)
        # What stood there from the beginning is no change.
        self._tree.drain()

    @classmethod
    def loaded(cls, schema, pages, *, order=8):
        """Return the Shelf whose page tree has these pages."""
        tree = PageTree.loaded(pages, order=order)
        shelf = cls(schema, empty_book(schema), order=order)
        shelf._tree = tree
        return shelf

    @property
    def pages(self):
        """The pairs (number, page), ascending by number."""
        return self._tree.pages

    @property
    def rows_read(self):
        """The number of rows that were scanned for the last answer."""
        return self._rows_read

    def apply(self, delta):
        """Change the book by the delta."""
        for table, _, _, _ in delta:
            definition_of(self._schema, table)
        for table, key, before, _ in delta:
            if not same(self._tree.look((table, *key)), before):
                raise Mismatch(table, key)
        for table, key, _, after in delta:
            if after is None:
                self._tree.take((table, *key))
            else:
                self._tree.put((table, *key), after)

    def read_book(self):
        """Return the book."""
        names = [definition[0] for definition in self._schema]
        return tuple([(name, tuple(self._scanned((name,), (name,)))) for name in names])

    def answer(self, tree):
        """Return the answer of the tree over the book, ascending."""
        columns_of(self._schema, tree)
        rows, count = self._answered(tree, [])
        self._rows_read = count
        return rows

    def drain(self):
        """Return the triples (number, before, after) of the pages that have changed since the last drain."""
        return self._tree.drain()

    def _answered(self, tree, conditions):
        """Return the answer and the number of rows scanned for it.

        The conditions are those of the where nodes directly above the tree.
        """
        if tree[0] == "table":
            rows = self._table_rows(tree, conjoined(conditions))
            return sorted_rows(rows), len(rows)
        above = [*conditions, tree[2]] if tree[0] == "where" else []
        results = [self._answered(part, above) for part in children(tree)]
        answered = answer_node(self._schema, tree, [part_rows for part_rows, _ in results])
        return answered, sum([count for _, count in results])

    def _table_rows(self, node, condition):
        """Return those rows of the table node that the condition's limits for the key's first column leave."""
        _, table, alias = node
        column = definition_of(self._schema, table)[2][0]
        low, high = interval(condition, f"{alias}.{column}")
        return self._scanned((table, *low), (table, *high))

    def _scanned(self, low, high):
        return [row for _, row in self._tree.scan(low, high)]
