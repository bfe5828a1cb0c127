"""Pages, in which a tree of entries is kept, and what makes pages a right page tree."""

from storedesk.values import row_key


def is_tree(pages, order):
    """Tell whether the pages are a right page tree of this order."""
    numbers = [number for number, _ in pages]
    if 0 not in numbers or not _ascend(numbers):
        return False
    table = dict(pages)
    if not all([_is_sized(number, page, order) for number, page in pages]):
        return False
    # Only where each page but page 0 is named once, which then leaves no ring below page 0, do the levels end.
    if _named(pages) != numbers[1:]:
        return False
    levels = _levels(table)
    if levels is None or sum([len(level) for level in levels]) != len(pages):
        return False
    return _ascend([row_key(key) for key, _ in entries_of(pages)]) and _are_parted(table, levels)


def _ascend(things):
    return all([one < other for one, other in zip(things, things[1:])])


def _is_sized(number, page, order):
    """Tell whether the page has as many entries or numbers as it may have, and as many keys as it must have."""
    if page[0] == "leaf":
        least = 0 if number == 0 else order // 2
        return least <= len(page[1]) <= order
    least = 2 if number == 0 else order // 2
    return least <= len(page[2]) <= order and len(page[2]) == len(page[1]) + 1


def _named(pages):
    """Return the numbers that stand in branches, ascending, each as often as it stands there."""
    return sorted([number for _, page in pages if page[0] == "branch" for number in page[2]])


def _levels(table):
    """Return the lists of numbers from page 0 down to the leaves, or None if leaves stand on several levels."""
    levels = [[0]]
    while table[levels[-1][0]][0] == "branch":
        if not all([table[number][0] == "branch" for number in levels[-1]]):
            return None
        levels.append([below for number in levels[-1] for below in table[number][2]])
    if not all([table[number][0] == "leaf" for number in levels[-1]]):
        return None
    return levels


def _are_parted(table, levels):
    """Tell whether each key of a branch parts the entries beneath it; the entries are known to ascend."""
    spans = {}
    for level in reversed(levels):
        for number in level:
            page = table[number]
            if page[0] == "leaf":
                spans[number] = (_least_key(page[1]), _greatest_key(page[1]))
                continue
            below = [spans[part] for part in page[2]]
            if not _parts(page[1], below):
                return False
            spans[number] = (below[0][0], below[-1][1])
    return True


def _least_key(entries):
    return row_key(entries[0][0]) if len(entries) > 0 else ()


def _greatest_key(entries):
    return row_key(entries[-1][0]) if len(entries) > 0 else ()


def _parts(keys, spans):
    """Tell whether each key stands between the spans (least key, greatest key) on its two sides."""
    for key, left, right in zip(keys, spans, spans[1:]):
        if not left[1] < row_key(key) <= right[0]:
            return False
    return True


def entries_of(pages):
    """Return the list of the entries, ascending."""
    table = dict(pages)
    numbers = [0]
    while table[numbers[0]][0] == "branch":
        numbers = [below for number in numbers for below in table[number][2]]
    return [entry for number in numbers for entry in table[number][1]]


def depth_of(pages):
    """Return the number of pages on each path from page 0 to a leaf."""
    return len(search_path(pages, ()))


def search_path(pages, key):
    """Return the numbers of the pages from page 0 to the leaf in which the key stands or would stand."""
    table = dict(pages)
    path = [0]
    while table[path[-1]][0] == "branch":
        page = table[path[-1]]
        path.append(page[2][turn_at(page[1], key)])
    return path


def turn_at(keys, key):
    """Return how many of the keys of a branch are less than the key or the same."""
    place = row_key(key)
    return len([one for one in keys if row_key(one) <= place])
