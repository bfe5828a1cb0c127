"""Views, which keep the answers of trees, and papers, which show what has changed beneath each node of one."""

from storedesk.answers import answer_node
from storedesk.books import rows_of
from storedesk.conditions import conjuncts, holds, labels_of
from storedesk.deltas import apply_delta, edited_book
from storedesk.errors import NameTaken, NoView
from storedesk.trees import children, columns_of, tables_in
from storedesk.values import Bag, same, sorted_rows


def bag_turn(before, after):
    """Return the rows that have gone and those that have come, between two lists or tuples of rows."""
    old = Bag(before)
    new = Bag(after)
    return tuple((old - new).rows), tuple((new - old).rows)


def turn_paper(schema, first, second, tree):
    """Return the paper of the tree from the book first to the book second."""
    return _paper(_node_answers(schema, first, tree), _node_answers(schema, second, tree))


def _node_answers(schema, book, tree):
    """Return a pair (place, answer) for each node of the tree, in postorder."""
    if tree[0] == "table":
        return [((), sorted_rows(rows_of(book, tree[1])))]
    answers = []
    parts = []
    for at, part in enumerate(children(tree)):
        beneath = _node_answers(schema, book, part)
        answers.extend([((at, *place), rows) for place, rows in beneath])
        parts.append(beneath[-1][1])
    answers.append(((), answer_node(schema, tree, parts)))
    return answers


def _paper(before, after):
    """Return the paper from the answers of a tree's nodes to those of the same nodes afterwards."""
    paper = []
    for old, new in zip(before, after):
        gone, come = bag_turn(old[1], new[1])
        if len(gone) > 0 or len(come) > 0:
            paper.append((old[0], gone, come))
    return tuple(paper)


def is_turn(schema, first, second, tree, paper):
    """Tell whether the paper is that of the tree from the book first to the book second."""
    return same(turn_paper(schema, first, second, tree), paper)


def can_touch(schema, tree, delta):
    """Tell whether an edit of the delta passes at a table node of the tree."""
    for node, conditions in _guarded_tables(tree, []):
        columns = columns_of(schema, node)
        own = [one for one in conditions if all([label in columns for label in labels_of(one)])]
        for table, _, before, after in delta:
            if table == node[1] and (_passes(own, columns, before) or _passes(own, columns, after)):
                return True
    return False


def _guarded_tables(tree, conditions):
    """Return a pair (table node, conditions) for each table node of the tree.

    The conditions are the conjuncts of the where nodes that stand above it with nothing but where and pair nodes
    between; those passed in are the ones above the tree itself.
    """
    if tree[0] == "table":
        return [(tree, conditions)]
    above = []
    if tree[0] == "pair":
        above = conditions
    elif tree[0] == "where":
        above = [*conditions, *conjuncts(tree[2])]
    found = []
    for part in children(tree):
        found.extend(_guarded_tables(part, above))
    return found


def _passes(conditions, columns, row):
    """Tell whether row is a row, not None, for which all the conditions hold."""
    return row is not None and all([holds(condition, columns, row) for condition in conditions])


class View:
    """The answer of a tree, which deltas alone keep up to date."""

    def __init__(self, schema, book, tree):
        self._columns = columns_of(schema, tree)
        self._tree = tree
        names = tables_in(tree)
        # Of the schema and the book, only the tree's tables are kept.
        self._schema = tuple([definition for definition in schema if definition[0] in names])
        self._tables = tuple([(name, rows) for name, rows in book if name in names])
        self._answers = _node_answers(self._schema, self._tables, tree)

    @property
    def rows(self):
        """The answer, a list in ascending order."""
        return list(self._answers[-1][1])

    @property
    def columns(self):
        """The columns of the tree."""
        return self._columns

    @property
    def tree(self):
        """The tree whose answer is kept."""
        return self._tree

    def turn(self, delta):
        """Go on to the book to which the delta leads, and return the paper."""
        names = [name for name, _ in self._tables]
        tables = edited_book(self._schema, self._tables, tuple([edit for edit in delta if edit[0] in names]))
        answers = _node_answers(self._schema, tables, self._tree)
        paper = _paper(self._answers, answers)
        self._tables = tables
        self._answers = answers
        return paper


class Keeper:
    """A book and views of it that have names."""

    def __init__(self, schema, book):
        self._schema = schema
        self._book = book
        self._views = {}

    @property
    def book(self):
        """The book."""
        return self._book

    @property
    def names(self):
        """The names of the views, ascending."""
        return tuple(sorted(self._views))

    def keep(self, name, tree):
        """Keep a view of the tree under this name."""
        if name in self._views:
            raise NameTaken(name)
        self._views[name] = View(self._schema, self._book, tree)

    def forget(self, name):
        """Forget the view with this name."""
        self._view(name)
        del self._views[name]

    def turn(self, delta):
        """Change the book by the delta, and return the names of the views whose answer has changed, ascending."""
        self._book = apply_delta(self._schema, self._book, delta)
        changed = []
        for name in sorted(self._views):
            paper = self._views[name].turn(delta)
            if len(paper) > 0 and paper[-1][0] == ():
                changed.append(name)
        return tuple(changed)

    def touchable(self, delta):
        """Return the names of the views that the delta can touch, ascending."""
        return tuple([name for name in self.names if can_touch(self._schema, self._views[name].tree, delta)])

    def show(self, name):
        """Return the answer of the view, a list."""
        return self._view(name).rows

    def columns_shown(self, name):
        """Return the columns of the view."""
        return self._view(name).columns

    def _view(self, name):
        if name not in self._views:
            raise NoView(name)
        return self._views[name]
