"""Plain readings of points 55 to 63 and 79 to 92, a small town with references, and lines that are drawn for it."""

import itertools

from storedesk.changes import change_delta
from storedesk.deltas import apply_delta, difference
from storedesk.errors import Busy, Closed, Dangling, Mismatch, NameTaken, NotSerial, NoView, StoreError
from storedesk.printer import write_change
from storedesk.reader import read_change, read_query
from storedesk.trees import columns_of, tables_in
from storedesk.values import is_name
from tests.drawn import condition, plain_answer, plain_shown, row_order
from tests.support import exact

# The town's tables refer to each other and to themselves; a person may live nowhere and have no boss.
TOWN = (
    ("person", (("id", "number"), ("city", "any"), ("boss", "number?")), ("id",),
     ((("city",), "city"), (("boss",), "person")), ()),
    ("city", (("id", "any"), ("size", "any")), ("id",), (), (("compare", "!=", ("column", "size"), ("value", -1)),)),
    ("note", (("on", "number"), ("at", "any"), ("text", "any")), ("at", "on"), ((("on",), "person"),), ()),
)
TOWN_BOOK = (
    ("person", ((1, "a", None), (2, True, 1), (3, None, 3))),
    ("city", ((True, 0), (1, 0), ("a", True))),
    ("note", ((2, None, "x"), (1, 0, "y"))),
)
CITIES = (True, 1, "a", "b")
SIZES = (None, True, 0, 1, -1)


def town_key(table, row):
    return (row[1], row[0]) if table == "note" else row[:1]


def town_row(draw, table):
    if table == "person":
        return (draw.randrange(5), draw.choice((None, None, *CITIES)), draw.choice((None, None, 1, 2, 3)))
    if table == "city":
        return (draw.choice(CITIES), draw.choice(SIZES if draw.random() < 0.3 else SIZES[:-1]))
    return (draw.randrange(5), draw.choice((None, 0)), draw.choice(("x", "y")))


def town_change(draw):
    """A change of the town; it may be refused."""
    table = draw.choice(("person", "person", "city", "note"))
    columns = [column for column, _ in [one for one in TOWN if one[0] == table][0][1]]
    way = draw.random()
    if way < 0.45:
        return ("put", table, tuple([town_row(draw, table) for _ in range(draw.choice((1, 1, 2)))]))
    key = {"person": "id", "city": "id", "note": "on"}[table]
    worth = draw.choice(CITIES) if table == "city" else draw.randrange(5)
    aim = ("compare", draw.choice(("=", "=", "=", ">")), ("column", key), ("value", worth))
    if draw.random() < 0.15:
        aim = condition(draw, columns, 3)
    if way < 0.6:
        return ("take", table, aim)
    column = draw.choice(columns[1:]) if draw.random() < 0.85 else columns[0]
    return ("set", table, ((column, ("value", town_row(draw, table)[columns.index(column)])),), aim)


def town_delta(draw, book):
    """A delta from the book to one that is much like it; references may be broken by it."""
    tables = {name: {exact_place(town_key(name, row)): row for row in rows} for name, rows in book}
    for _ in range(draw.randrange(1, 4)):
        table = draw.choice(("person", "city", "note"))
        row = town_row(draw, table)
        place = exact_place(town_key(table, row))
        if place in tables[table] and draw.random() < 0.5:
            del tables[table][place]
        elif table != "city" or row[1] != -1:
            tables[table][place] = row
    rows = [(name, tuple([tables[name][place] for place in sorted(tables[name])])) for name, _ in book]
    return difference(TOWN, book, tuple(rows))


def exact_place(row):
    return tuple(row_order(row))


def full_reads_of(schema, record):
    """Point 56; the items stand as they come, perhaps several times."""
    items = list(record[1])
    for table, key, _, after in record[2]:
        items.append((table, key))
        for name, columns, _, references, _ in schema:
            for parts, target in references:
                if after is None and target == table:
                    items.append((name, None))
                if after is not None and name == table:
                    values = dict(zip([column for column, _ in columns], after))
                    if all([values[part] is not None for part in parts]):
                        items.append((target, tuple([values[part] for part in parts])))
    return items


def links_of(schema, history):
    """Point 57, each pair of records by itself."""
    found = set()
    for a, b in itertools.permutations(range(len(history)), 2):
        writes = [(edit[0], exact(edit[1])) for edit in history[a][2]]
        for table, key in full_reads_of(schema, history[b]):
            if [place for place in writes if place[0] == table and (key is None or place[1] == exact(key))]:
                found.add((a, b) if a < history[b][0] else (b, a))
    return sorted(found)


def has_ring(schema, history):
    """Whether somebody comes back to where the way along links began."""
    pairs = links_of(schema, history)
    reached = {number: {second for first, second in pairs if first == number} for number in range(len(history))}
    for _ in history:
        reached = {one: found.union(*[reached[other] for other in found]) for one, found in reached.items()}
    return any([one in found for one, found in reached.items()])


def item_order(item):
    return (item[0], item[1] is not None, row_order(item[1] or ()))


class PlainStore:
    """Points 59 to 63 over whole books, one for each number of records."""

    def __init__(self, schema, book):
        self.schema = schema
        self.books = [book]
        self.history = ()
        self.open = {}
        self.begun = 0
        self.kept = {}
        self.horizon = 0
        for name, rows in book:
            for row in rows:
                self.kept[self.place(name, self.key(name, row))] = [(0, row)]

    def key(self, table, row):
        _, columns, key, _, _ = [one for one in self.schema if one[0] == table][0]
        names = [column for column, _ in columns]
        return tuple([row[names.index(part)] for part in key])

    def place(self, table, key):
        return (table, exact_place(key))

    def begin(self):
        self.open[self.begun] = {"start": len(self.history), "base": self.books[-1], "seen": self.books[-1],
                                 "items": []}
        self.begun += 1
        return self.begun - 1

    def task(self, number):
        if number not in self.open:
            raise Closed()
        return self.open[number]

    def query(self, number, tree):
        rows = plain_shown(self.task(number)["seen"], tree, self.schema)
        self.open[number]["items"] += [(table, None) for table in tables_in(tree)]
        return rows

    def look(self, number, table, key):
        rows = [row for row in dict(self.task(number)["seen"])[table] if exact(self.key(table, row)) == exact(key)]
        self.open[number]["items"].append((table, key))
        return rows[0] if rows else None

    def change(self, number, change):
        delta = change_delta(self.schema, self.task(number)["seen"], change)
        self.edit(number, delta)
        if change[0] != "put":
            self.open[number]["items"].append((change[1], None))
        return delta

    def edit(self, number, delta):
        task = self.task(number)
        task["seen"] = apply_delta(self.schema, task["seen"], delta)
        task["items"] += full_reads_of(self.schema, (0, (), delta))

    def own(self, number):
        return difference(self.schema, self.task(number)["base"], self.open[number]["seen"])

    def reads(self, number):
        items = {repr(item): item for item in self.task(number)["items"]}
        return sorted(items.values(), key=item_order)

    def record(self, number):
        return (self.task(number)["start"], tuple(self.reads(number)), self.own(number))

    def commit(self, number):
        made = self.record(number)
        del self.open[number]
        if has_ring(self.schema, (*self.history, made)):
            raise NotSerial(None)
        self.history = (*self.history, made)
        self.books.append(apply_delta(self.schema, self.books[-1], made[2]))
        for table, key, _, after in made[2]:
            self.kept.setdefault(self.place(table, key), []).append((len(self.history), after))
        return len(self.history) - 1

    def drop(self, number):
        self.task(number)
        del self.open[number]

    def versions(self, table, key):
        return self.kept.get(self.place(table, key), [])

    def sweep(self):
        horizon = min([task["start"] for task in self.open.values()] + [len(self.history)])
        self.horizon = max(horizon, self.horizon)
        removed = 0
        for place, pairs in self.kept.items():
            left = list(pairs)
            while len(left) > 1 and left[1][0] <= horizon:
                left.pop(0)
            if left and left[0][0] <= horizon and left[0][1] is None:
                left.pop(0)
            removed += len(pairs) - len(left)
            self.kept[place] = left
        return removed

    @property
    def book(self):
        return self.books[-1]


class PlainSessions:
    """Points 86 to 88."""

    def __init__(self, schema, book):
        self.schema = schema
        self.store = PlainStore(schema, book)
        self.tasks = {}
        self.entries = []
        # For each record, whose it is and whether undo may take it still.
        self.owners = []

    def run(self, session, line):
        try:
            result = self.answer(session, line)
        except StoreError as error:
            result = ("refused", type(error).__name__)
        self.entries.append((session, line, result))
        return result

    def answer(self, session, line):
        if line == "begin":
            if session in self.tasks:
                raise Busy()
            self.tasks[session] = self.store.begin()
            return ("begun",)
        if line in ("commit", "drop"):
            if session not in self.tasks:
                raise Closed()
            number = self.tasks.pop(session)
            if line == "drop":
                self.store.drop(number)
                return ("dropped",)
            return ("committed", self.committed(number, session))
        if line == "undo":
            return self.undo(session)
        if line.split()[:1] == ["from"] or line.replace("\n", " ").lstrip().startswith("from "):
            return self.query(session, read_query(line))
        change = read_change(line)
        number = self.tasks.get(session)
        if number is not None:
            return ("changed", len(self.store.change(number, change)))
        delta = change_delta(self.schema, self.store.book, change)
        number = self.store.begin()
        self.store.change(number, change)
        self.committed(number, session)
        return ("changed", len(delta))

    def query(self, session, tree):
        columns = columns_of(self.schema, tree)
        number = self.tasks.get(session)
        if number is not None:
            return ("rows", columns, tuple(self.store.query(number, tree)))
        return ("rows", columns, tuple(plain_shown(self.store.book, tree, self.schema)))

    def committed(self, number, owner):
        result = self.store.commit(number)
        self.owners.append(owner)
        return result

    def at_once(self, delta):
        """Commit a delta that no undo takes."""
        apply_delta(self.schema, self.store.book, delta)
        number = self.store.begin()
        self.store.edit(number, delta)
        return self.committed(number, None)

    def undo(self, session):
        own = [at for at, owner in enumerate(self.owners) if owner == session and self.store.history[at][2]]
        if not own:
            raise Closed()
        if session in self.tasks:
            raise Busy()
        back = tuple([(table, key, after, before) for table, key, before, after in self.store.history[own[-1]][2]])
        self.at_once(back)
        self.owners[own[-1]] = None
        return ("undone", len(back))


class PlainCopy:
    """Points 79 to 85, worked out anew from the known changes whenever something is asked."""

    def __init__(self, name, names):
        self.name, self.names = name, names
        self.known = []
        self.others = {one: 0 for one in names}

    def top(self):
        return max([change[2] for change in self.known], default=0)

    def heard(self):
        clocks = {**self.others, self.name: self.top()}
        return tuple([(one, clocks[one]) for one in sorted(clocks)])

    def write(self, delta):
        own = [change for change in self.known if change[0] == self.name]
        self.known.append((self.name, len(own) + 1, self.top() + 1, delta))

    def receive(self, changes):
        new = []
        for change in changes:
            if change[:2] not in [one[:2] for one in self.known]:
                self.known.append(change)
                new.append(change)
            self.others[change[0]] = max(self.others[change[0]], change[2])
        return len(new)

    def meet(self, other):
        counts = (self.receive(list(other.known)), other.receive(list(self.known)))
        mine, theirs = dict(self.heard()), dict(other.heard())
        for one in self.names:
            self.others[one] = max(mine[one], theirs[one])
            other.others[one] = max(mine[one], theirs[one])
        return counts

    def shown(self, schema, base):
        """What a Copy shows: name, book, vector, changes, clashes, heard and settled."""
        changes = tuple(sorted(self.known, key=lambda change: (change[2], change[0])))
        book, clashes = base, []
        for name, number, _, delta in changes:
            try:
                book = apply_delta(schema, book, delta)
            except (Mismatch, Dangling) as error:
                clashes.append((name, number, type(error).__name__, error.table, error.key))
        vector = {name: len([change for change in changes if change[0] == name]) for name in sorted(self.names)}
        least = min([clock for _, clock in self.heard()])
        return (self.name, book, tuple([pair for pair in vector.items() if pair[1]]), changes, tuple(clashes),
                self.heard(), len([change for change in changes if change[2] <= least]))


class PlainDesk(PlainSessions):
    """Points 89 to 91, without a disk: the deltas that are written as groups, and how often it was saved."""

    def __init__(self, schema, book, name="desk", names=("desk",), groups=None):
        PlainSessions.__init__(self, schema, book)
        self.base = book
        self.copy = PlainCopy(name, names)
        self.kept = {}
        nothing = tuple([(definition[0], ()) for definition in schema])
        self.writes = [difference(schema, nothing, book)] if groups is None else list(groups)

    def answer(self, session, line):
        words = line.split(" ")
        if line == "save":
            self.writes.append("save")
            return ("saved",)
        if words[0] == "keep" and len(words) > 3 and is_name(words[1]) and words[2] == "as":
            tree = read_query(line[len("keep  as ") + len(words[1]):])
            if words[1] in self.kept:
                raise NameTaken(words[1])
            columns_of(self.schema, tree)
            self.kept[words[1]] = tree
            return ("kept", words[1])
        if words[0] in ("show", "forget") and len(words) == 2 and is_name(words[1]):
            if words[1] not in self.kept:
                raise NoView(words[1])
            if words[0] == "forget":
                del self.kept[words[1]]
                return ("forgotten", words[1])
            tree = self.kept[words[1]]
            return ("rows", columns_of(self.schema, tree), tuple(plain_answer(self.store.book, tree, self.schema)))
        count = len(self.store.history)
        result = PlainSessions.answer(self, session, line)
        for _, _, delta in self.store.history[count:]:
            if delta:
                self.writes.append(delta)
                self.copy.write(delta)
        return result

    def meet(self, other):
        counts = self.copy.meet(other.copy)
        for one in (self, other):
            delta = difference(one.schema, one.store.book, one.copy.shown(one.schema, one.base)[1])
            if delta:
                one.at_once(delta)
                one.writes.append(delta)
        return counts


QUERIES = (
    "from person as p", "from city as c top 2 by c.size down, c.id", "from note as n where n.at = none",
    "from person as p with city as c where p.city = c.id read p.id, c.size as s", " from empty (x.y, z)",
    "from (from person as p read p.boss as b) group by b tell count as n",
    "from city as c read c.id\nunion empty (c.id)",
    "from person as p read id", "from nobody as n", "from city as c with city as c", "from city as c union note as n",
    "from person as p where", "from",
)
ODD_LINES = (
    "", " ", "begin ", " commit", "Begin", "begin begin", "undo;", "drop x", "keep", "keep v", "keep v as",
    "keep v as ",
    "keep  v as from city as c", "keep v  as from city as c", "keep top as from city as c", "show", "show  v",
    "show v ",
    "show top", "forget", "forget V", "save ", "save v", "put", "put city", "put city (1, 2", "put city ()", "take",
    "take nobody", "set city id to 5, id to 6", "set city nope to 5", "put city (7, -1)", "put person (1, 2, true)",
    "put city (1, 0), (1, 0)", "fromage", "from city as c; undo", "commit\n",
)


def town_line(draw, views=True):
    """A line for a session of the town; views are none's before a Desk."""
    way = draw.random()
    if way < 0.28:
        return draw.choice(("begin", "begin", "commit", "commit", "commit", "drop"))
    if way < 0.36:
        return "undo"
    if way < 0.46:
        return draw.choice(QUERIES)
    if way < 0.5:
        return draw.choice(ODD_LINES)
    if views and way < 0.64:
        name = draw.choice(("v", "w", "xyz_1"))
        return draw.choice((f"keep {name} as {draw.choice(QUERIES)}", f"keep {name} as {draw.choice(QUERIES)}",
                            f"show {name}", f"show {name}", f"show {name}", f"forget {name}", "save"))
    return write_change(town_change(draw))


def outcome(call, *rest):
    """What a call returns, or the class and the attributes of the error that it raises."""
    try:
        return ("returned", call(*rest))
    except StoreError as error:
        told = {name: worth for name, worth in vars(error).items() if name != "ring"}
        return ("raised", tuple(sorted(told.items(), key=repr)))
