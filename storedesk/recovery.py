"""An engine that keeps a book on a disk, from which the committed groups are recovered after a stop."""

from storedesk.disks import missing_images, recovered_pages, recovery_paper, redone_pages, sweepable
from storedesk.errors import Busy, Closed
from storedesk.shelves import Shelf
from storedesk.values import same


class Engine:
    """A book in pages, each change of which is logged on the disk ahead of the page itself."""

    def __init__(self, schema, disk, *, order=8):
        self._schema = schema
        self._disk = disk
        self._order = order
        self._group = None
        # The pages as they were when the group under way began.
        self._then = ()
        state = disk.state()
        self._shelf = Shelf.loaded(schema, recovered_pages(state), order=order)
        self._drop_unfinished(state)

    @property
    def disk(self):
        """The disk on which the engine has been opened."""
        return self._disk

    @property
    def group(self):
        """The number of the group under way, or None."""
        return self._group

    @property
    def pages(self):
        """The pairs (number, page) in memory, ascending by number."""
        return self._shelf.pages

    def begin(self):
        """Begin a group and return its number."""
        if self._group is not None:
            raise Busy()
        number = self._disk.end
        self._write_entry(("begin", number))
        self._group = number
        self._then = self._shelf.pages
        return number

    def apply(self, delta):
        """Change the book by the delta, as a part of the group under way."""
        self._check_group()
        self._shelf.apply(delta)
        self._write_images(self._group, self._shelf.drain())

    def commit(self):
        """Commit the group under way."""
        self._check_group()
        self._write_entry(("commit", self._group))
        self._group = None

    def drop(self):
        """Give each page what it had before the group under way, and end the group."""
        self._check_group()
        now = dict(self._shelf.pages)
        then = dict(self._then)
        self._shelf = Shelf.loaded(self._schema, self._then, order=self._order)
        numbers = sorted(set(list(now) + list(then)))
        self._write_images(self._group, [(number, now.get(number), then.get(number)) for number in numbers])
        self._write_entry(("drop", self._group))
        self._group = None

    def flush(self, number=None):
        """Write the dirty pages, or only the one with this number, and return how many were written."""
        pages = dict(self._shelf.pages)
        marks = self._marks_due()
        numbers = [one for one in sorted(marks) if number is None or one == number]
        for one in numbers:
            self._disk.write(("page", one, pages.get(one), marks[one]))
        return len(numbers)

    def sweep(self):
        """Cut the log as far as nothing in it is needed any more."""
        position = sweepable(self._disk.state())
        if position > self._disk.first:
            self._disk.write(("cut", position))

    def checkpoint(self):
        """Write all dirty pages and cut the log."""
        self.flush()
        self.sweep()

    def dirty_pages(self):
        """Return the list of the numbers of the dirty pages, ascending."""
        return sorted(self._marks_due())

    def read_book(self):
        """Return the book in memory."""
        return self._shelf.read_book()

    def answer(self, tree):
        """Return the answer of the tree over the book in memory, ascending."""
        return self._shelf.answer(tree)

    def _drop_unfinished(self, state):
        """Log what turns the unfinished group of the state back, and that it is dropped."""
        _, unfinished, _, undo = recovery_paper(state)
        contents = redone_pages(state)
        for group in unfinished:
            self._write_images(group, [(number, contents.get(number), content) for number, content in undo])
            self._write_entry(("drop", group))

    def _check_group(self):
        if self._group is None:
            raise Closed()

    def _write_entry(self, entry):
        self._disk.write(("record", entry))

    def _write_images(self, group, changes):
        """Log an image for each triple (number, before, after) of a page that has changed."""
        for number, before, after in changes:
            if not same(before, after):
                self._write_entry(("image", group, number, before, after))

    def _marks_due(self):
        """Return a dict from the number of each dirty page to the position of its latest image record."""
        return {record[2]: position for position, record in missing_images(self._disk.state())}
