"""Copies of one book that work apart, and have the same book as soon as they know the same changes."""

from storedesk.deltas import apply_delta
from storedesk.errors import Dangling, Forked, Gap, Mismatch, NoCopy
from storedesk.values import same


def replayed(schema, book, changes):
    """Return the book after the changes, which may stand in any order, and the tuple of the clashes."""
    result = book
    clashes = []
    for name, number, _, delta in in_order(changes):
        try:
            result = apply_delta(schema, result, delta)
        except (Mismatch, Dangling) as error:
            clashes.append((name, number, error.word, error.table, error.key))
    return result, tuple(clashes)


def in_order(changes):
    """Return the list of the changes by their marks, ascending."""
    return sorted(changes, key=_mark)


def _mark(change):
    name, _, clock, _ = change
    return (clock, name)


class Copy:
    """One of several copies: the changes that it knows, and the book and the clashes that they make."""

    def __init__(self, schema, book, name, names):
        self.name = name
        self._schema = schema
        self._base = book
        self._changes = ()
        self._book = book
        self._clashes = ()
        # From the name of each copy to the clock heard from it; this copy's own is the greatest that it knows.
        self._clocks = {one: 0 for one in names}
        # From the name of each copy to the greatest number of its changes that is known, 0 if none is.
        self._numbers = {one: 0 for one in names}

    @property
    def book(self):
        """The book that results from the known changes."""
        return self._book

    @property
    def vector(self):
        """The pairs (name, greatest known number), ascending by name."""
        return tuple([(name, self._numbers[name]) for name in sorted(self._numbers) if self._numbers[name] > 0])

    @property
    def changes(self):
        """The known changes, in order."""
        return self._changes

    @property
    def clashes(self):
        """The clashes, in the order of their changes."""
        return self._clashes

    @property
    def heard(self):
        """The pairs (name, clock heard from that copy), ascending by name."""
        return tuple([(name, self._clocks[name]) for name in sorted(self._clocks)])

    @property
    def settled(self):
        """The number of known changes before which no other can come to stand any more."""
        least = min(self._clocks.values())
        return len([clock for _, _, clock, _ in self._changes if clock <= least])

    def write(self, delta):
        """Make a change from the delta and return its mark, or None for an empty delta."""
        book = apply_delta(self._schema, self._book, delta)
        if len(delta) == 0:
            return None
        clock = self._clocks[self.name] + 1
        # Its clock is above all others, so the change stands last, and nothing needs to be replayed.
        self._note((self.name, self._numbers[self.name] + 1, clock, delta))
        self._book = book
        return (clock, self.name)

    def changes_after(self, vector):
        """Return the list of the known changes that the vector lacks, in order."""
        numbers = dict(vector)
        return [change for change in self._changes if change[1] > numbers.get(change[0], 0)]

    def receive(self, changes):
        """Take over those of the changes that are not known, and return their number."""
        for name, _, _, _ in changes:
            if name not in self._numbers:
                raise NoCopy(name)
        _check_forks([*self._changes, *changes])
        places = {(change[0], change[1]): True for change in changes}
        for name, number, _, _ in changes:
            if number - 1 > self._numbers[name] and (name, number - 1) not in places:
                raise Gap(name, number)
        fresh = self._fresh(changes)
        for change in fresh:
            self._note(change)
        self._book, self._clashes = replayed(self._schema, self._base, self._changes)
        return len(fresh)

    def meet(self, other):
        """Exchange changes and heard clocks; return how many changes were new to this copy and to the other one."""
        counts = (self.receive(other.changes_after(self.vector)), other.receive(self.changes_after(other.vector)))
        self._hear(other.heard)
        other._hear(self.heard)
        return counts

    def _fresh(self, changes):
        """Return the list of those changes that are not known, each once."""
        found = {}
        for change in changes:
            if change[1] > self._numbers[change[0]]:
                found[(change[0], change[1])] = change
        return list(found.values())

    def _note(self, change):
        """Add a change to those that are known."""
        name, number, clock, _ = change
        self._changes = tuple(in_order([*self._changes, change]))
        self._numbers[name] = max(number, self._numbers[name])
        self._hear([(name, clock), (self.name, clock)])

    def _hear(self, heard):
        """Take over every greater clock of the pairs (name, clock)."""
        for name, clock in heard:
            self._clocks[name] = max(clock, self._clocks[name])


def _check_forks(changes):
    """Raise Forked for the first change that is not the same as an earlier one with its name and number."""
    found = {}
    for change in changes:
        place = (change[0], change[1])
        if place in found and not same(found[place], change):
            raise Forked(change[0], change[1])
        found[place] = change
