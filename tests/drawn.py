"""Books, conditions and trees that are drawn, and what a plain reading of point 29 makes of them."""

import functools

SCHEMA = (
    ("r", (("id", "number"), ("a", "any"), ("b", "any")), ("id",), (), ()),
    ("s", (("k", "any"), ("a", "any")), ("k", "a"), (), ()),
    ("u", (("x", "any"),), ("x",), (), ()),
)
VALUES = (None, False, True, -1, 0, 1, 2, "", "a", "b")
OPS = ("=", "!=", "<", "<=", ">", ">=")
MOST_NODES = 16
MOST_PRODUCT = 3000


def key(value):
    """What values are ordered by, and rows by the list of it."""
    if value is None:
        return (0, 0)
    if isinstance(value, bool):
        return (1, int(value))
    return (2, value) if isinstance(value, int) else (3, value)


def row_order(row):
    return [key(value) for value in row]


def in_order(rows):
    return sorted(rows, key=row_order)


def book(draw, most=4):
    """A book of SCHEMA with at most so many rows in each table."""
    return (
        ("r", tuple([(at, draw.choice(VALUES), draw.choice(VALUES)) for at in range(draw.randrange(most + 1))])),
        ("s", distinct(draw, most, 2)),
        ("u", distinct(draw, most, 1)),
    )


def distinct(draw, most, width):
    found = {}
    for _ in range(draw.randrange(most + 1)):
        row = tuple([draw.choice(VALUES) for _ in range(width)])
        found[tuple(row_order(row))] = row
    return tuple(in_order(found.values()))


def term(draw, labels):
    if labels and draw.random() < 0.6:
        return ("column", draw.choice(labels))
    return ("value", draw.choice(VALUES))


def condition(draw, labels, nodes):
    """A condition of about so many nodes, with labels among these."""
    if nodes <= 1:
        if draw.random() < 0.15:
            return draw.choice((("true",), ("false",)))
        return ("compare", draw.choice(OPS), term(draw, labels), term(draw, labels))
    word = draw.choice(("not", "and", "and", "or"))
    if word == "not":
        return ("not", condition(draw, labels, nodes - 1))
    left = draw.randrange(1, nodes)
    return (word, condition(draw, labels, left), condition(draw, labels, nodes - left))


class Grower:
    """Draws right trees; the labels that it makes up are each made up once."""

    def __init__(self, draw):
        self.draw = draw
        self.made = 0

    def fresh(self):
        self.made += 1
        return f"x{self.made}" if self.made % 2 else f"y.x{self.made}"

    def tree(self, nodes):
        """A right tree of about so many nodes, with its columns."""
        draw = self.draw
        if nodes <= 1:
            return self.leaf()
        word = draw.choice(("pair", "pair", "pair", "where", "where", "where", "read", "read", "group", "sides", "top"))
        if word == "pair" and nodes > 2:
            size = draw.randrange(1, nodes - 1)
            left, columns = self.tree(size)
            right, more = self.tree(nodes - 1 - size)
            return ("pair", left, right), columns + more
        if word == "sides":
            return self.sides(nodes)
        part, columns = self.tree(nodes - 1)
        if word == "read":
            return self.read(part, columns)
        if word == "group":
            return self.group(part, columns)
        if word == "top":
            keys = tuple([(draw.choice(columns), draw.choice(("up", "down"))) for _ in range(draw.randrange(3))])
            return ("top", part, keys, draw.choice((0, 1, 2, 3, 9))), columns
        return ("where", part, condition(draw, columns, draw.randrange(1, 6))), columns

    def leaf(self):
        draw = self.draw
        if draw.random() < 0.08:
            columns = tuple([self.fresh() for _ in range(draw.randrange(1, 3))])
            return ("empty", columns), columns
        name, columns = draw.choice((("r", ("id", "a", "b")), ("s", ("k", "a")), ("u", ("x",))))
        self.made += 1
        alias = f"t{self.made}"
        return ("table", name, alias), tuple([f"{alias}.{column}" for column in columns])

    def read(self, part, columns):
        draw = self.draw
        if draw.random() < 0.2:
            return ("read", part, tuple([(label, label) for label in columns])), columns
        labels = [draw.choice(columns) for _ in range(draw.randrange(1, 4))]
        outs = []
        for label in labels:
            outs.append(label if draw.random() < 0.5 and label not in outs else self.fresh())
        return ("read", part, tuple(zip(labels, outs))), tuple(outs)

    def group(self, part, columns):
        draw = self.draw
        by = tuple([label for label in columns if draw.random() < 0.4])
        aggregates = [("count", None, self.fresh())] if not by or draw.random() < 0.5 else []
        for word in ("sum", "least", "most"):
            if draw.random() < 0.3:
                aggregates.append((word, draw.choice(columns), self.fresh()))
        return ("group", part, by, tuple(aggregates)), by + tuple([out for _, _, out in aggregates])

    def sides(self, nodes):
        """A union or minus; its right part is made to have the columns of the left one."""
        draw = self.draw
        word = draw.choice(("union", "minus"))
        left, columns = self.tree(max(1, nodes // 2))
        way = draw.randrange(4)
        if way == 0:
            return (word, left, left), columns
        if way == 1:
            return (word, left, ("where", left, condition(draw, columns, 2))), columns
        if way == 2:
            sides = [left, ("empty", columns)]
            draw.shuffle(sides)
            return (word, *sides), columns
        right, others = self.tree(max(1, nodes // 2 - 2))
        items = tuple([(draw.choice(others), out) for out in columns])
        return (word, left, ("read", right, items)), columns


def nodes_of(tree):
    """All nodes of the tree, each behind those above it."""
    parts = [part for part in tree[1:3] if isinstance(part, tuple) and part and part[0] in WORDS]
    return [tree, *[node for part in parts[:2 if tree[0] in ("pair", "union", "minus") else 1]
                    for node in nodes_of(part)]] if tree[0] not in ("table", "empty") else [tree]


WORDS = ("table", "empty", "pair", "where", "read", "group", "union", "minus", "top")


def depth(tree):
    if tree[0] in ("table", "empty"):
        return 0
    parts = tree[1:3] if tree[0] in ("pair", "union", "minus") else tree[1:2]
    return 1 + max([depth(part) for part in parts])


def truths(formula):
    """The number of comparisons and constants in a condition."""
    if formula[0] in ("compare", "true", "false"):
        return 1
    return sum([truths(part) for part in formula[1:]])


def within_bounds(tree, rows_each=4):
    """Whether the tree keeps the bounds of point 8, over books with at most so many rows in each table."""
    nodes = nodes_of(tree)
    tables = [node for node in nodes if node[0] == "table"]
    conditions = [node[2] for node in nodes if node[0] == "where"]
    if len(nodes) > MOST_NODES or depth(tree) > 10 or sum([truths(one) for one in conditions]) > 50:
        return False
    if max([len(node[2]) for node in nodes if node[0] == "read"], default=0) > 12:
        return False
    groups = [node for node in nodes if node[0] == "group"]
    if max([max(len(node[2]), len(node[3])) for node in groups], default=0) > 6:
        return False
    return rows_each ** len(tables) <= MOST_PRODUCT


def trees(draw, count, most=MOST_NODES, rows_each=4):
    """So many right trees with their columns, which keep the bounds."""
    found = []
    while len(found) < count:
        tree, columns = Grower(draw).tree(draw.randrange(1, most + 1))
        if within_bounds(tree, rows_each):
            found.append((tree, columns))
    return found


# The plain reading. Rows stand as they come; only tops and the end of it all sort them.


def truth(formula, columns, row):
    word = formula[0]
    if word == "compare":
        left, right = [key(row[columns.index(one[1])] if one[0] == "column" else one[1]) for one in formula[2:]]
        return {"=": left == right, "!=": left != right, "<": left < right, "<=": left <= right, ">": left > right,
                ">=": left >= right}[formula[1]]
    if word == "not":
        return not truth(formula[1], columns, row)
    if word == "and":
        return truth(formula[1], columns, row) and truth(formula[2], columns, row)
    if word == "or":
        return truth(formula[1], columns, row) or truth(formula[2], columns, row)
    return word == "true"


def plain(store, tree, schema=SCHEMA):
    """The pair (columns, rows) of a tree over a book, the rows of a top node in its order."""
    word = tree[0]
    if word == "table":
        names = [column for column, _ in [table for table in schema if table[0] == tree[1]][0][1]]
        return tuple([f"{tree[2]}.{name}" for name in names]), list(dict(store)[tree[1]])
    if word == "empty":
        return tree[1], []
    columns, rows = plain(store, tree[1], schema)
    if word in ("pair", "union", "minus"):
        more, others = plain(store, tree[2], schema)
        if word == "pair":
            return columns + more, [row + other for row in rows for other in others]
        return columns, rows + others if word == "union" else left_over(rows, others)
    if word == "where":
        return columns, [row for row in rows if truth(tree[2], columns, row)]
    if word == "read":
        at = [columns.index(label) for label, _ in tree[2]]
        return tuple([out for _, out in tree[2]]), [tuple([row[one] for one in at]) for row in rows]
    if word == "group":
        return tree[2] + tuple([out for _, _, out in tree[3]]), grouped(rows, columns, tree[2], tree[3])
    return columns, first_rows(rows, columns, tree[2], tree[3])


def left_over(rows, others):
    rest = [row_order(row) for row in others]
    kept = []
    for row in rows:
        if row_order(row) in rest:
            rest.remove(row_order(row))
        else:
            kept.append(row)
    return kept


def grouped(rows, columns, by, aggregates):
    groups = [] if by else [((), [])]
    for row in rows:
        named = tuple([row[columns.index(label)] for label in by])
        for one, members in groups:
            if row_order(one) == row_order(named):
                members.append(row)
                break
        else:
            groups.append((named, [row]))
    return [named + tuple([aggregate(members, columns, word, label) for word, label, _ in aggregates])
            for named, members in groups]


def aggregate(members, columns, word, label):
    if word == "count":
        return len(members)
    values = sorted([row[columns.index(label)] for row in members], key=key)
    if word == "sum":
        return sum([value for value in values if key(value)[0] == 2])
    if not values:
        return None
    return values[0] if word == "least" else values[-1]


def first_rows(rows, columns, keys, n):
    def before(row, other):
        for label, way in keys:
            one, two = key(row[columns.index(label)]), key(other[columns.index(label)])
            if one != two:
                return -1 if (one < two) == (way == "up") else 1
        return (row_order(row) > row_order(other)) - (row_order(row) < row_order(other))

    return sorted(rows, key=functools.cmp_to_key(before))[:n]


def plain_shown(store, tree, schema=SCHEMA):
    rows = plain(store, tree, schema)[1]
    return rows if tree[0] == "top" else in_order(rows)


def plain_answer(store, tree, schema=SCHEMA):
    return in_order(plain(store, tree, schema)[1])
