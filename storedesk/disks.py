"""Disks, which hold pages and a log, and what can be recovered from them."""

from storedesk.errors import Stopped
from storedesk.values import same


class Disk:
    """Pages and a log of records, written piece by piece as long as there is fuel."""

    def __init__(self, *, fuel=None):
        self.fuel = fuel
        self._pieces = []
        self._pages = {}
        self._first = 0
        self._log = []

    def write(self, piece):
        """Write one piece."""
        if self.fuel is not None:
            if self.fuel == 0:
                raise Stopped()
            self.fuel -= 1
        self._pieces.append(piece)
        if piece[0] == "record":
            self._log.append(piece[1])
        elif piece[0] == "page":
            self._pages[piece[1]] = piece[1:]
        else:
            self._log = self._log[piece[1] - self._first:]
            self._first = piece[1]

    def twin(self, *, fuel=None):
        """Return a new Disk on which the same has been written."""
        other = Disk(fuel=fuel)
        other._pieces = list(self._pieces)
        other._pages = dict(self._pages)
        other._first = self._first
        other._log = list(self._log)
        return other

    def state(self):
        """Return the state (pages, first, log)."""
        pages = tuple([self._pages[number] for number in sorted(self._pages)])
        return (pages, self._first, tuple(self._log))

    def written(self):
        """Return the list of all pieces written so far."""
        return list(self._pieces)

    def logged(self, position):
        """Return the log record at the position, or None if the log has none there."""
        if self._first <= position < self._first + len(self._log):
            return self._log[position - self._first]
        return None

    @property
    def first(self):
        """The position of the first record of the log."""
        return self._first

    @property
    def end(self):
        """The position that the next record will get."""
        return self._first + len(self._log)

    def __len__(self):
        return len(self._log)

    def __iter__(self):
        return iter(self._log)


def recovery_paper(state):
    """Return (committed, unfinished, missing, undo) of the state."""
    log = state[2]
    committed = sorted(_groups(log, "commit"))
    unfinished = _unfinished(log)
    missing = tuple([position for position, _ in missing_images(state)])
    undo = {}
    for record in log:
        if record[0] == "image" and record[1] in unfinished and record[2] not in undo:
            undo[record[2]] = record[3]
    return (tuple(committed), tuple(unfinished), missing, tuple([(number, undo[number]) for number in sorted(undo)]))


def _groups(log, word):
    """Return the groups of the records of one kind."""
    return [record[1] for record in log if record[0] == word]


def _unfinished(log):
    """Return the list of the groups that have begun in the log and have not ended there, ascending."""
    ended = _groups(log, "commit") + _groups(log, "drop")
    return [group for group in _groups(log, "begin") if group not in ended]


def missing_images(state):
    """Return the pairs (position, record) of the missing image records, ascending."""
    pages, first, log = state
    marks = {number: mark for number, _, mark in pages}
    images = [(first + at, record) for at, record in enumerate(log) if record[0] == "image"]
    return [(position, record) for position, record in images if marks.get(record[2], -1) < position]


def redone_pages(state):
    """Return a dict from page numbers to contents, as they are when the missing image records have been applied."""
    contents = {number: content for number, content, _ in state[0]}
    for _, record in missing_images(state):
        contents[record[2]] = record[4]
    return contents


def recovered_pages(state):
    """Return the recovered pages (number, content), ascending."""
    contents = redone_pages(state)
    for number, content in recovery_paper(state)[3]:
        contents[number] = content
    pages = [(number, contents[number]) for number in sorted(contents) if contents[number] is not None]
    return tuple(pages) if len(pages) > 0 else ((0, ("leaf", ())),)


def sweepable(state):
    """Return the position up to which the log may be cut."""
    _, first, log = state
    missing = [position for position, _ in missing_images(state)]
    return min([*_unfinished(log), *missing, first + len(log)])


def is_ahead(pieces):
    """Tell whether the pieces, written to an empty disk, keep ahead."""
    disk = Disk()
    for piece in pieces:
        if not _keeps_ahead(disk, piece):
            return False
        disk.write(piece)
    return True


def _keeps_ahead(disk, piece):
    """Tell whether the piece may be written to the disk as it is now."""
    if piece[0] == "page":
        _, number, content, mark = piece
        record = disk.logged(mark)
        if record is None or record[0] != "image" or record[2] != number:
            return False
        return same(record[4], content)
    if piece[0] == "cut":
        return disk.first <= piece[1] <= sweepable(disk.state())
    return True
