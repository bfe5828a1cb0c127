"""Keys, entries and page trees that are drawn, and a plain reading of point 50."""

from tests.drawn import VALUES, row_order


def keys(draw, count):
    """So many keys at most, ascending, each once; some are prefixes of others."""
    found = {}
    for _ in range(count):
        key = tuple([draw.choice((*VALUES, *range(40))) for _ in range(draw.randrange(4))])
        found[tuple(row_order(key))] = key
    return [found[place] for place in sorted(found)]


def entries(draw, count):
    return [(key, (*key, draw.choice(VALUES))) for key in keys(draw, count)]


def built(draw, content, order):
    """A right page tree of the entries, one of the many that there are."""
    pages = {}
    numbers = iter(draw.sample(range(1, 1000), len(content) + 1))
    if len(content) <= order and (len(content) < 2 * (order // 2) or draw.random() < 0.5):
        return ((0, ("leaf", tuple(content))),)
    level = []
    for part in split(draw, content, order):
        number = next(numbers)
        pages[number] = ("leaf", tuple(part))
        level.append((number, part[0][0], part[-1][0]))
    while len(level) > order or (len(level) >= 2 * (order // 2) and draw.random() < 0.3):
        above = []
        for part in split(draw, level, order):
            number = next(numbers)
            pages[number] = branch(draw, part)
            above.append((number, part[0][1], part[-1][2]))
        level = above
    pages[0] = branch(draw, level)
    return tuple([(number, pages[number]) for number in sorted(pages)])


def split(draw, things, order):
    """The things in two or more parts of order // 2 to order each."""
    half = order // 2
    least, most = max(2, -(-len(things) // order)), len(things) // half
    sizes = [half] * draw.randint(least, most)
    for _ in range(len(things) - sum(sizes)):
        sizes[draw.choice([at for at, size in enumerate(sizes) if size < order])] += 1
    parts, at = [], 0
    for size in sizes:
        parts.append(things[at:at + size])
        at += size
    return parts


def branch(draw, parts):
    """A branch over triples (number, least key, greatest key)."""
    # The least key above a key is the key with None behind it.
    between = [draw.choice((right[1], (*left[2], None))) for left, right in zip(parts, parts[1:])]
    return ("branch", tuple(between), tuple([number for number, _, _ in parts]))


def is_right(pages, order):
    """Point 50, one rule after another."""
    numbers = [number for number, _ in pages]
    table = dict(pages)
    if numbers != sorted(set(numbers)) or 0 not in table:
        return False
    named = [number for page in table.values() if page[0] == "branch" for number in page[2]]
    for page in table.values():
        if page[0] == "branch" and len(page[2]) != len(page[1]) + 1:
            return False
    if sorted(named) != sorted(set(numbers) - {0}):
        return False
    paths = all_paths(table)
    if {number for path in paths for number in path} != set(numbers) or len({len(path) for path in paths}) != 1:
        return False
    for number, page in pages:
        size = len(page[1]) if page[0] == "leaf" else len(page[2])
        least = order // 2 if number else (2 if page[0] == "branch" else 0)
        if not least <= size <= order:
            return False
    order_of = [row_order(key) for key, _ in beneath(table, 0)]
    if any([one >= other for one, other in zip(order_of, order_of[1:])]):
        return False
    for page in table.values():
        if page[0] == "branch":
            for at, key in enumerate(page[1]):
                left = [one for number in page[2][:at + 1] for one, _ in beneath(table, number)]
                right = [one for number in page[2][at + 1:] for one, _ in beneath(table, number)]
                if any([row_order(one) >= row_order(key) for one in left]):
                    return False
                if any([row_order(one) < row_order(key) for one in right]):
                    return False
    return True


def all_paths(table):
    """The paths from page 0 to the leaves; each page but 0 is named once, so they end."""
    paths = [(0,)]
    while [path for path in paths if table[path[-1]][0] == "branch"]:
        longer = []
        for path in paths:
            page = table[path[-1]]
            longer.extend([(*path, number) for number in page[2]] if page[0] == "branch" else [path])
        paths = longer
    return paths


def beneath(table, number):
    page = table[number]
    if page[0] == "leaf":
        return list(page[1])
    return [entry for one in page[2] for entry in beneath(table, one)]
