"""Sessions, which take lines of text and answer them."""

from storedesk.answers import shown
from storedesk.deltas import inverse
from storedesk.errors import Busy, Closed, StoreError
from storedesk.reader import read_change, read_query
from storedesk.trees import columns_of
from storedesk.versions import VersionStore
from storedesk.words import tokens


class Sessions:
    """Sessions with names, which work side by side over one book."""

    def __init__(self, schema, book):
        self._schema = schema
        self._store = VersionStore(schema, book)
        # From the name of each session that has a transaction to the transaction's number.
        self._numbers = {}
        # From the name of a session to the numbers of its records that can be undone, the last one last.
        self._undoable = {}
        self._entries = []

    @property
    def book(self):
        """The committed book."""
        return self._store.book

    @property
    def history(self):
        """The records in the order in which they were committed."""
        return self._store.history

    @property
    def entries(self):
        """The triples (session, line, answer) of all lines, in order."""
        return tuple(self._entries)

    def run(self, session, line):
        """Run the line for the session and return its answer."""
        try:
            result = self._done(session, line)
        except StoreError as error:
            result = ("refused", error.word)
        self._entries.append((session, line, result))
        return result

    def merge(self, delta):
        """Commit a merged delta, which belongs to no session, and return the number of its record."""
        return self._edited(delta)

    def __len__(self):
        return len(self._entries)

    def __iter__(self):
        return iter(self._entries)

    def _done(self, session, line):
        """Do what the line says and return its answer, or raise the error for which it is refused."""
        if line == "begin":
            return self._begun(session)
        if line == "commit":
            return self._committed(session)
        if line == "drop":
            return self._dropped(session)
        if line == "undo":
            return self._undone(session)
        if tokens(line)[0][:2] == ("word", "from"):
            return self._queried(session, read_query(line))
        return self._changed(session, read_change(line))

    def _number(self, session):
        """Return the number of the session's transaction."""
        if session not in self._numbers:
            raise Closed()
        return self._numbers[session]

    def _begun(self, session):
        if session in self._numbers:
            raise Busy()
        self._numbers[session] = self._store.begin()
        return ("begun",)

    def _committed(self, session):
        number = self._number(session)
        # The session's transaction ends also if the commit is refused.
        del self._numbers[session]
        record_number = self._store.commit(number)
        self._note_undoable(session, record_number)
        return ("committed", record_number)

    def _dropped(self, session):
        self._store.drop(self._number(session))
        del self._numbers[session]
        return ("dropped",)

    def _queried(self, session, tree):
        if session in self._numbers:
            rows = self._store.query(self._numbers[session], tree)
        else:
            rows = shown(self._schema, self._store.book, tree)
        return ("rows", columns_of(self._schema, tree), tuple(rows))

    def _changed(self, session, change):
        if session in self._numbers:
            return ("changed", len(self._store.change(self._numbers[session], change)))
        number = self._store.begin()
        try:
            delta = self._store.change(number, change)
        except StoreError:
            self._store.drop(number)
            raise
        self._note_undoable(session, self._store.commit(number))
        return ("changed", len(delta))

    def _undone(self, session):
        record_numbers = self._undoable.get(session, [])
        if len(record_numbers) == 0:
            raise Closed()
        if session in self._numbers:
            raise Busy()
        delta = inverse(self._store.history[record_numbers[-1]][2])
        self._edited(delta)
        self._undoable[session] = record_numbers[:-1]
        return ("undone", len(delta))

    def _edited(self, delta):
        """Commit the delta in a transaction of its own and return the number of the record."""
        number = self._store.begin()
        try:
            self._store.edit(number, delta)
        except StoreError:
            self._store.drop(number)
            raise
        return self._store.commit(number)

    def _note_undoable(self, session, record_number):
        """Let the session's undo find the record, if it has edits."""
        if len(self._store.history[record_number][2]) > 0:
            self._undoable.setdefault(session, []).append(record_number)


def replay_lines(schema, book, lines):
    """Return the list of the answers of the lines, pairs (session, line), run in new Sessions."""
    sessions = Sessions(schema, book)
    return [sessions.run(session, line) for session, line in lines]
