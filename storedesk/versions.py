"""A book in versions of its rows, over which transactions work side by side."""

from storedesk.answers import shown
from storedesk.books import row_at, rows_of
from storedesk.changes import change_delta
from storedesk.deltas import apply_delta, combined
from storedesk.errors import Closed, NotSerial, Swept
from storedesk.histories import full_reads, ordered_items, ring_of
from storedesk.schemas import definition_of, key_of
from storedesk.trees import tables_in
from storedesk.values import row_key


class VersionStore:
    """The committed book, its history, the versions of its rows, and the transactions under way."""

    def __init__(self, schema, book):
        self._schema = schema
        self._book = book
        self._history = ()
        # From a transaction's number to (start, the book that it sees, its own delta, the items it has read).
        self._transactions = {}
        self._next_number = 0
        # From (table name, row_key of the key) to the list of the versions.
        self._versions = {}
        self._horizon = 0
        for definition in schema:
            for row in rows_of(book, definition[0]):
                self._versions[(definition[0], row_key(key_of(definition, row)))] = [(0, row)]

    @property
    def book(self):
        """The committed book."""
        return self._book

    @property
    def history(self):
        """The records in the order in which they were committed."""
        return self._history

    @property
    def under_way(self):
        """The numbers of the transactions under way, ascending."""
        return tuple(sorted(self._transactions))

    def begin(self):
        """Begin a transaction and return its number."""
        number = self._next_number
        self._next_number += 1
        self._transactions[number] = (len(self._history), self._book, (), ())
        return number

    def query(self, number, tree):
        """Return the shown answer over the book that the transaction sees."""
        seen = self.seen(number)
        rows = shown(self._schema, seen, tree)
        self._keep(number, seen, (), [(table, None) for table in tables_in(tree)])
        return rows

    def look(self, number, table, key):
        """Return the row with this key that the transaction sees, or None."""
        seen = self.seen(number)
        row = row_at(self._schema, seen, table, key)
        self._keep(number, seen, (), [(table, key)])
        return row

    def change(self, number, change):
        """Do the change in the transaction and return its delta."""
        delta = change_delta(self._schema, self.seen(number), change)
        self._edit(number, delta, [] if change[0] == "put" else [(change[1], None)])
        return delta

    def edit(self, number, delta):
        """Change the book that the transaction sees by the delta."""
        self._edit(number, delta, [])

    def seen(self, number):
        """Return the book that the transaction sees."""
        return self._transaction(number)[1]

    def own(self, number):
        """Return the transaction's delta so far."""
        return self._transaction(number)[2]

    def reads(self, number):
        """Return the list of the items that the transaction has read, ascending, each once."""
        return list(self._transaction(number)[3])

    def ring_ahead(self, number):
        """Return a ring with which a commit would be refused now, or None."""
        return ring_of(self._schema, (*self._history, self._made(number)))

    def commit(self, number):
        """Commit the transaction and return the number of its record."""
        made = self._made(number)
        ring = ring_of(self._schema, (*self._history, made))
        del self._transactions[number]
        if ring is not None:
            raise NotSerial(ring)
        self._book = apply_delta(self._schema, self._book, made[2])
        self._history = (*self._history, made)
        for table, key, _, after in made[2]:
            self._versions.setdefault((table, row_key(key)), []).append((len(self._history), after))
        return len(self._history) - 1

    def drop(self, number):
        """End the transaction without committing it."""
        self._transaction(number)
        del self._transactions[number]

    def versions(self, table, key):
        """Return the list of the versions (count, row) that the sweeps have left."""
        definition_of(self._schema, table)
        return list(self._versions.get((table, row_key(key)), []))

    def sweep(self):
        """Forget the versions that no transaction under way can see, and return their number."""
        horizon = min([start for start, _, _, _ in self._transactions.values()], default=len(self._history))
        self._horizon = max(self._horizon, horizon)
        removed = 0
        for place in list(self._versions):
            left = _left_by_sweep(self._versions[place], horizon)
            removed += len(self._versions[place]) - len(left)
            self._versions[place] = left
        return removed

    def book_at(self, count):
        """Return the book after the first count records."""
        if count < self._horizon:
            raise Swept(count)
        tables = {definition[0]: [] for definition in self._schema}
        for place in sorted(self._versions):
            row = _row_as_of(self._versions[place], count)
            if row is not None:
                tables[place[0]].append(row)
        return tuple([(definition[0], tuple(tables[definition[0]])) for definition in self._schema])

    def _transaction(self, number):
        if number not in self._transactions:
            raise Closed()
        return self._transactions[number]

    def _made(self, number):
        """Return the record that a commit of the transaction would add."""
        start, _, own, reads = self._transaction(number)
        return (start, reads, own)

    def _edit(self, number, delta, items):
        """Let the transaction do the delta, and read these items beside those that it reads for the delta."""
        seen = apply_delta(self._schema, self.seen(number), delta)
        self._keep(number, seen, delta, [*full_reads(self._schema, (0, (), delta)), *items])

    def _keep(self, number, seen, delta, items):
        """Give the transaction the book that it sees now, one more delta and more items that it has read."""
        start, _, own, reads = self._transactions[number]
        self._transactions[number] = (start, seen, combined(own, delta), tuple(ordered_items([*reads, *items])))


def _left_by_sweep(pairs, horizon):
    """Return the versions that a sweep with this horizon leaves."""
    last = len(pairs) - 1
    left = [pair for at, pair in enumerate(pairs) if at == last or pairs[at + 1][0] > horizon]
    if len(left) > 0 and left[0][0] <= horizon and left[0][1] is None:
        return left[1:]
    return left


def _row_as_of(pairs, count):
    """Return the row of the last version that is not above the count, or None."""
    rows = [row for since, row in pairs if since <= count]
    return rows[-1] if len(rows) > 0 else None
