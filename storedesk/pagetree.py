"""An ordered map from keys to rows that is kept in pages."""

from storedesk.errors import NotATree
from storedesk.pages import entries_of, is_tree, turn_at
from storedesk.values import compare_rows, same


class PageTree:
    """A map of keys to rows; its pages are always a right page tree of its order."""

    def __init__(self, *, order=8):
        self.order = order
        self._pages = {0: ("leaf", ())}
        # The pages that put and take have set since the last drain, as they were then; None where there was none.
        self._before = {}

    @classmethod
    def loaded(cls, pages, *, order=8):
        """Return a PageTree with these pages."""
        if not is_tree(pages, order):
            raise NotATree()
        tree = cls(order=order)
        tree._pages = dict(pages)
        return tree

    @property
    def pages(self):
        """The pairs (number, page), ascending by number."""
        return tuple([(number, self._pages[number]) for number in sorted(self._pages)])

    def put(self, key, row):
        """Put the row under the key, and return the row that the key had before, or None."""
        path = self._path(key)
        entries = self._pages[path[-1]][1]
        at = _place_of(entries, key)
        if not _stands_at(entries, at, key):
            self._set(path[-1], ("leaf", (*entries[:at], (key, row), *entries[at:])))
            self._split(path)
            return None
        if not same(entries[at][1], row):
            self._set(path[-1], ("leaf", (*entries[:at], (key, row), *entries[at + 1:])))
        return entries[at][1]

    def take(self, key):
        """Remove the entry with the key, and return its row, or None if there is none."""
        path = self._path(key)
        entries = self._pages[path[-1]][1]
        at = _place_of(entries, key)
        if not _stands_at(entries, at, key):
            return None
        self._set(path[-1], ("leaf", (*entries[:at], *entries[at + 1:])))
        self._refill(path)
        return entries[at][1]

    def look(self, key):
        """Return the row of the key, or None."""
        return self._row_under(key)

    def scan(self, low=(), high=(), *, reverse=False):
        """Return the entries from low to the last one that is not above high or begins with it."""
        entries = self._entries_between(0, low, high)
        return entries[::-1] if reverse else entries

    def drain(self):
        """Return the triples (number, before, after) of the pages that have changed since the last drain."""
        changed = []
        for number in sorted(self._before):
            before = self._before[number]
            after = self._pages.get(number)
            if not same(before, after):
                changed.append((number, before, after))
        self._before = {}
        return changed

    def __len__(self):
        return len(entries_of(self.pages))

    def __contains__(self, key):
        return self._row_under(key) is not None

    def _row_under(self, key):
        """Return the row of the key, or None."""
        entries = self._pages[self._path(key)[-1]][1]
        at = _place_of(entries, key)
        return entries[at][1] if _stands_at(entries, at, key) else None

    def _path(self, key):
        """Return the numbers of the pages from page 0 to the leaf for the key."""
        path = [0]
        while self._pages[path[-1]][0] == "branch":
            _, keys, numbers = self._pages[path[-1]]
            path.append(numbers[turn_at(keys, key)])
        return path

    def _entries_between(self, number, low, high):
        """Return the entries of a scan that stand in the page or beneath it."""
        page = self._pages[number]
        if page[0] == "leaf":
            return [entry for entry in page[1] if compare_rows(low, entry[0]) <= 0 and _is_within(entry[0], high)]
        last = len([key for key in page[1] if _is_within(key, high)])
        entries = []
        for at in range(turn_at(page[1], low), last + 1):
            entries.extend(self._entries_between(page[2][at], low, high))
        return entries

    def _set(self, number, page):
        """Give the number another page, or none."""
        if number not in self._before:
            self._before[number] = self._pages.get(number)
        if page is None:
            del self._pages[number]
        else:
            self._pages[number] = page

    def _free_number(self):
        number = 1
        while number in self._pages:
            number += 1
        return number

    def _split(self, path):
        """Halve those pages of the path that have become too large, from the leaf upwards."""
        for step in reversed(range(len(path))):
            page = self._pages[path[step]]
            if _size(page) <= self.order:
                return
            left, key, right = _halves(page)
            number = self._free_number()
            self._set(number, right)
            if step == 0:
                # Page 0 stays the root, so its left half moves, too.
                other = self._free_number()
                self._set(other, left)
                self._set(0, ("branch", (key,), (other, number)))
            else:
                self._set(path[step], left)
                self._name(path[step - 1], path[step], key, number)

    def _name(self, branch, left, key, right):
        """Let the branch name the page right, too, behind the page left and with the key between them."""
        _, keys, numbers = self._pages[branch]
        at = numbers.index(left)
        self._set(branch, ("branch", (*keys[:at], key, *keys[at:]), (*numbers[:at + 1], right, *numbers[at + 1:])))

    def _refill(self, path):
        """Join those pages of the path that have become too small to a page beside them, from the leaf upwards."""
        for step in reversed(range(1, len(path))):
            if _size(self._pages[path[step]]) >= self.order // 2:
                return
            self._join(path[step - 1], path[step])
        page = self._pages[0]
        if page[0] == "branch" and len(page[2]) == 1:
            self._set(0, self._pages[page[2][0]])
            self._set(page[2][0], None)

    def _join(self, branch, number):
        """Join the page, which the branch names, to a page beside it; halve both again if that is too large."""
        _, keys, numbers = self._pages[branch]
        at = max(0, numbers.index(number) - 1)
        left, right = numbers[at:at + 2]
        page = _joined(self._pages[left], keys[at], self._pages[right])
        if _size(page) <= self.order:
            self._set(left, page)
            self._set(right, None)
            self._set(branch, ("branch", (*keys[:at], *keys[at + 1:]), (*numbers[:at + 1], *numbers[at + 2:])))
        else:
            first, key, second = _halves(page)
            self._set(left, first)
            self._set(right, second)
            self._set(branch, ("branch", (*keys[:at], key, *keys[at + 1:]), numbers))


def _place_of(entries, key):
    """Return how many of the entries have a lesser key."""
    return len([entry for entry in entries if compare_rows(entry[0], key) < 0])


def _stands_at(entries, at, key):
    """Tell whether there is an entry at this place, and has the key."""
    return at < len(entries) and same(entries[at][0], key)


def _is_within(key, high):
    """Tell whether the key is high or less, or begins with high."""
    return compare_rows(key[:len(high)], high) <= 0


def _size(page):
    """Return the number of a leaf's entries or of a branch's numbers."""
    return len(page[1]) if page[0] == "leaf" else len(page[2])


def _halves(page):
    """Return the two halves of a page and the key between them."""
    half = _size(page) // 2
    if page[0] == "leaf":
        entries = page[1]
        return ("leaf", entries[:half]), entries[half][0], ("leaf", entries[half:])
    _, keys, numbers = page
    return ("branch", keys[:half - 1], numbers[:half]), keys[half - 1], ("branch", keys[half:], numbers[half:])


def _joined(left, key, right):
    """Return the page that has all of two pages beside each other, with the key between them."""
    if left[0] == "leaf":
        return ("leaf", left[1] + right[1])
    return ("branch", (*left[1], key, *right[1]), left[2] + right[2])
