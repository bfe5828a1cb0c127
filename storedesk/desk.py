"""A desk, which joins sessions, an engine, views and a copy over one book."""

from storedesk.books import empty_book
from storedesk.copies import Copy
from storedesk.deltas import difference
from storedesk.disks import Disk
from storedesk.errors import Stopped, StoreError
from storedesk.reader import read_query
from storedesk.recovery import Engine
from storedesk.sessions import Sessions
from storedesk.values import is_name
from storedesk.views import Keeper


class Desk:
    """Sessions whose records are kept on a disk, shown by views and known to a copy that meets others."""

    def __init__(self, schema, book, disk, *, name="desk", names=("desk",), order=8):
        self._schema = schema
        self._engine = Engine(schema, disk, order=order)
        self._sessions = Sessions(schema, book)
        self._keeper = Keeper(schema, book)
        self._copy = Copy(schema, book, name, names)
        self._entries = []
        self._stopped = False
        self._write_group(difference(schema, empty_book(schema), book))

    @classmethod
    def recovered(cls, schema, disk, *, name="desk", names=("desk",), order=8):
        """Return a new Desk over the book that is recovered from the disk."""
        engine = Engine(schema, disk, order=order)
        # A new desk writes its book, but this disk has it already; so it is written to another one, and left there.
        desk = cls(schema, engine.read_book(), Disk(), name=name, names=names, order=order)
        desk._engine = engine
        return desk

    @property
    def book(self):
        """The committed book."""
        return self._sessions.book

    @property
    def history(self):
        """The records in the order in which they were committed."""
        return self._sessions.history

    @property
    def entries(self):
        """The triples (session, line, answer) of all lines, in order."""
        return tuple(self._entries)

    @property
    def disk(self):
        """The disk."""
        return self._engine.disk

    @property
    def views(self):
        """The names of the views, ascending."""
        return self._keeper.names

    @property
    def changes(self):
        """The changes that the copy knows, in order."""
        return self._copy.changes

    @property
    def clashes(self):
        """The clashes of the copy."""
        return self._copy.clashes

    @property
    def vector(self):
        """The vector of the copy."""
        return self._copy.vector

    def run(self, session, line):
        """Run the line for the session and return its answer."""
        if self._stopped:
            raise Stopped()
        try:
            result = self._done(session, line)
        except Stopped:
            self._stopped = True
            raise
        self._entries.append((session, line, result))
        return result

    def meet(self, other):
        """Let the copies meet, and commit what that makes of the two books; return what the copies return."""
        if self._stopped or other._stopped:
            raise Stopped()
        counts = self._copy.meet(other._copy)
        try:
            self._merge()
            other._merge()
        except Stopped:
            self._stopped = True
            other._stopped = True
            raise
        return counts

    def __len__(self):
        return len(self._entries)

    def __iter__(self):
        return iter(self._entries)

    def _done(self, session, line):
        """Do what the line says and return its answer; only Stopped is raised."""
        if line == "save":
            self._engine.checkpoint()
            return ("saved",)
        if not _is_for_views(line):
            return self._run_in_session(session, line)
        try:
            return self._done_with_views(line)
        except StoreError as error:
            return ("refused", error.word)

    def _run_in_session(self, session, line):
        """Let the sessions run the line, and follow what it has committed."""
        count = len(self._sessions.history)
        result = self._sessions.run(session, line)
        for _, _, delta in self._sessions.history[count:]:
            if len(delta) > 0:
                self._write_group(delta)
                self._keeper.turn(delta)
                self._copy.write(delta)
        return result

    def _done_with_views(self, line):
        """Do what a line for views says and return its answer."""
        word, name, *more = line.split(" ", 3)
        if word == "keep":
            self._keeper.keep(name, read_query(more[1]))
            return ("kept", name)
        if word == "show":
            return ("rows", self._keeper.columns_shown(name), tuple(self._keeper.show(name)))
        self._keeper.forget(name)
        return ("forgotten", name)

    def _merge(self):
        """Commit what leads from the committed book to the copy's book, if it is anything."""
        delta = difference(self._schema, self._sessions.book, self._copy.book)
        if len(delta) > 0:
            self._sessions.merge(delta)
            self._write_group(delta)
            self._keeper.turn(delta)

    def _write_group(self, delta):
        """Write the delta to the engine as one group."""
        self._engine.begin()
        self._engine.apply(delta)
        self._engine.commit()


def _is_for_views(line):
    """Tell whether the line has the form of one that keeps, shows or forgets a view."""
    parts = line.split(" ", 3)
    if len(parts) < 2 or not is_name(parts[1]):
        return False
    if parts[0] == "keep":
        return len(parts) == 4 and parts[2] == "as"
    return parts[0] in ("show", "forget") and len(parts) == 2
