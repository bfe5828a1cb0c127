"""Plain readings of points 55 to 63, a small town with references, and changes that are drawn for it."""

import itertools

from storedesk.changes import change_delta
from storedesk.deltas import apply_delta, difference
from storedesk.errors import Closed, NotSerial, StoreError
from storedesk.trees import tables_in
from tests.drawn import condition, plain_shown, row_order
from tests.support import exact

# The town's tables refer to each other and to themselves; a person may live nowhere and have no boss.
TOWN = (
    ("person", (("id", "number"), ("city", "any"), ("boss", "number?")), ("id",),
     ((("city",), "city"), (("boss",), "person")), ()),
    ("city", (("id", "any"), ("size", "any")), ("id",), (), (("compare", "!=", ("column", "size"), ("value", -1)),)),
    ("note", (("on", "number"), ("at", "any"), ("text", "any")), ("at", "on"), ((("on",), "person"),), ()),
)
TOWN_BOOK = (
    ("person", ((1, "a", None), (2, True, 1), (3, None, 3))),
    ("city", ((True, 0), (1, 0), ("a", True))),
    ("note", ((2, None, "x"), (1, 0, "y"))),
)
CITIES = (True, 1, "a", "b")
SIZES = (None, True, 0, 1, -1)


def town_key(table, row):
    return (row[1], row[0]) if table == "note" else row[:1]


def town_row(draw, table):
    if table == "person":
        return (draw.randrange(5), draw.choice((None, None, *CITIES)), draw.choice((None, None, 1, 2, 3)))
    if table == "city":
        return (draw.choice(CITIES), draw.choice(SIZES if draw.random() < 0.3 else SIZES[:-1]))
    return (draw.randrange(5), draw.choice((None, 0)), draw.choice(("x", "y")))


def town_change(draw):
    """A change of the town; it may be refused."""
    table = draw.choice(("person", "person", "city", "note"))
    columns = [column for column, _ in [one for one in TOWN if one[0] == table][0][1]]
    way = draw.random()
    if way < 0.45:
        return ("put", table, tuple([town_row(draw, table) for _ in range(draw.choice((1, 1, 2)))]))
    key = {"person": "id", "city": "id", "note": "on"}[table]
    worth = draw.choice(CITIES) if table == "city" else draw.randrange(5)
    aim = ("compare", draw.choice(("=", "=", "=", ">")), ("column", key), ("value", worth))
    if draw.random() < 0.15:
        aim = condition(draw, columns, 3)
    if way < 0.6:
        return ("take", table, aim)
    column = draw.choice(columns[1:]) if draw.random() < 0.85 else columns[0]
    return ("set", table, ((column, ("value", town_row(draw, table)[columns.index(column)])),), aim)


def town_delta(draw, book):
    """A delta from the book to one that is much like it; references may be broken by it."""
    tables = {name: {exact_place(town_key(name, row)): row for row in rows} for name, rows in book}
    for _ in range(draw.randrange(1, 4)):
        table = draw.choice(("person", "city", "note"))
        row = town_row(draw, table)
        place = exact_place(town_key(table, row))
        if place in tables[table] and draw.random() < 0.5:
            del tables[table][place]
        elif table != "city" or row[1] != -1:
            tables[table][place] = row
    rows = [(name, tuple([tables[name][place] for place in sorted(tables[name])])) for name, _ in book]
    return difference(TOWN, book, tuple(rows))


def exact_place(row):
    return tuple(row_order(row))


def full_reads_of(schema, record):
    """Point 56; the items stand as they come, perhaps several times."""
    items = list(record[1])
    for table, key, _, after in record[2]:
        items.append((table, key))
        for name, columns, _, references, _ in schema:
            for parts, target in references:
                if after is None and target == table:
                    items.append((name, None))
                if after is not None and name == table:
                    values = dict(zip([column for column, _ in columns], after))
                    if all([values[part] is not None for part in parts]):
                        items.append((target, tuple([values[part] for part in parts])))
    return items


def links_of(schema, history):
    """Point 57, each pair of records by itself."""
    found = set()
    for a, b in itertools.permutations(range(len(history)), 2):
        writes = [(edit[0], exact(edit[1])) for edit in history[a][2]]
        for table, key in full_reads_of(schema, history[b]):
            if [place for place in writes if place[0] == table and (key is None or place[1] == exact(key))]:
                found.add((a, b) if a < history[b][0] else (b, a))
    return sorted(found)


def has_ring(schema, history):
    """Whether somebody comes back to where the way along links began."""
    pairs = links_of(schema, history)
    reached = {number: {second for first, second in pairs if first == number} for number in range(len(history))}
    for _ in history:
        reached = {one: found.union(*[reached[other] for other in found]) for one, found in reached.items()}
    return any([one in found for one, found in reached.items()])


def item_order(item):
    return (item[0], item[1] is not None, row_order(item[1] or ()))


class PlainStore:
    """Points 59 to 63 over whole books, one for each number of records."""

    def __init__(self, schema, book):
        self.schema = schema
        self.books = [book]
        self.history = ()
        self.open = {}
        self.begun = 0
        self.kept = {}
        self.horizon = 0
        for name, rows in book:
            for row in rows:
                self.kept[self.place(name, self.key(name, row))] = [(0, row)]

    def key(self, table, row):
        _, columns, key, _, _ = [one for one in self.schema if one[0] == table][0]
        names = [column for column, _ in columns]
        return tuple([row[names.index(part)] for part in key])

    def place(self, table, key):
        return (table, exact_place(key))

    def begin(self):
        self.open[self.begun] = {"start": len(self.history), "base": self.books[-1], "seen": self.books[-1], "items": []}
        self.begun += 1
        return self.begun - 1

    def task(self, number):
        if number not in self.open:
            raise Closed()
        return self.open[number]

    def query(self, number, tree):
        rows = plain_shown(self.task(number)["seen"], tree, self.schema)
        self.open[number]["items"] += [(table, None) for table in tables_in(tree)]
        return rows

    def look(self, number, table, key):
        rows = [row for row in dict(self.task(number)["seen"])[table] if exact(self.key(table, row)) == exact(key)]
        self.open[number]["items"].append((table, key))
        return rows[0] if rows else None

    def change(self, number, change):
        delta = change_delta(self.schema, self.task(number)["seen"], change)
        self.edit(number, delta)
        if change[0] != "put":
            self.open[number]["items"].append((change[1], None))
        return delta

    def edit(self, number, delta):
        task = self.task(number)
        task["seen"] = apply_delta(self.schema, task["seen"], delta)
        task["items"] += full_reads_of(self.schema, (0, (), delta))

    def own(self, number):
        return difference(self.schema, self.task(number)["base"], self.open[number]["seen"])

    def reads(self, number):
        items = {repr(item): item for item in self.task(number)["items"]}
        return sorted(items.values(), key=item_order)

    def record(self, number):
        return (self.task(number)["start"], tuple(self.reads(number)), self.own(number))

    def commit(self, number):
        made = self.record(number)
        del self.open[number]
        if has_ring(self.schema, (*self.history, made)):
            raise NotSerial(None)
        self.history = (*self.history, made)
        self.books.append(apply_delta(self.schema, self.books[-1], made[2]))
        for table, key, _, after in made[2]:
            self.kept.setdefault(self.place(table, key), []).append((len(self.history), after))
        return len(self.history) - 1

    def drop(self, number):
        self.task(number)
        del self.open[number]

    def versions(self, table, key):
        return self.kept.get(self.place(table, key), [])

    def sweep(self):
        horizon = min([task["start"] for task in self.open.values()] + [len(self.history)])
        self.horizon = max(horizon, self.horizon)
        removed = 0
        for place, pairs in self.kept.items():
            left = list(pairs)
            while len(left) > 1 and left[1][0] <= horizon:
                left.pop(0)
            if left and left[0][0] <= horizon and left[0][1] is None:
                left.pop(0)
            removed += len(pairs) - len(left)
            self.kept[place] = left
        return removed

    @property
    def book(self):
        return self.books[-1]


def outcome(call, *rest):
    """What a call returns, or the class and the attributes of the error that it raises."""
    try:
        return ("returned", call(*rest))
    except StoreError as error:
        told = {name: worth for name, worth in vars(error).items() if name != "ring"}
        return ("raised", tuple(sorted(told.items(), key=repr)))
