"""Trees, which are queries: their parts, places and columns."""

from storedesk.conditions import labels_of
from storedesk.errors import NoColumn, NoPlace, Repeated, Unlike
from storedesk.schemas import column_names, definition_of

PART_COUNTS = {
    "table": 0, "empty": 0, "pair": 2, "where": 1, "read": 1, "group": 1, "union": 2, "minus": 2, "top": 1,
}


def children(tree):
    """Return the list of the parts of a node."""
    return list(tree[1:1 + PART_COUNTS[tree[0]]])


def places(tree):
    """Return the list of all places in preorder."""
    found = [()]
    for at, part in enumerate(children(tree)):
        found.extend([(at, *place) for place in places(part)])
    return found


def places_up(tree):
    """Return the list of all places in postorder."""
    found = []
    for at, part in enumerate(children(tree)):
        found.extend([(at, *place) for place in places_up(part)])
    found.append(())
    return found


def subtree(tree, place):
    """Return the tree at the place."""
    return _path(tree, place)[-1]


def _path(tree, place):
    """Return the nodes from the tree itself to the one at the place."""
    path = [tree]
    for at in place:
        parts = children(path[-1])
        if at >= len(parts):
            raise NoPlace(place)
        path.append(parts[at])
    return path


def replaced(tree, place, part):
    """Return the tree with part at the place."""
    path = _path(tree, place)
    result = part
    for step in reversed(range(len(place))):
        result = _with_part(path[step], place[step], result)
    return result


def _with_part(node, at, part):
    return (*node[:1 + at], part, *node[2 + at:])


def tables_in(tree):
    """Return the names of the tables in the tree, ascending, each once."""
    return sorted(set(_table_nodes(tree)))


def _table_nodes(tree):
    """Return the names in the table nodes from left to right."""
    if tree[0] == "table":
        return [tree[1]]
    names = []
    for part in children(tree):
        names.extend(_table_nodes(part))
    return names


def columns_of(schema, tree):
    """Return the columns of the tree, or raise its first fault."""
    # The survey looks the tables up, and goes from left to right, so it raises NoTable ahead of all other faults.
    nodes = _surveyed(schema, tree)
    for node, _, parts in nodes:
        _check_labels(node, parts)
    for _, columns, _ in nodes:
        _check_repeated(columns)
    for node, _, parts in nodes:
        if node[0] in ("union", "minus") and parts[0] != parts[1]:
            raise Unlike(parts[0], parts[1])
    return nodes[-1][1]


def _surveyed(schema, tree):
    """Return for each node, in postorder, the node, its columns and the list of its parts' columns."""
    nodes = []
    parts = []
    for part in children(tree):
        nodes.extend(_surveyed(schema, part))
        parts.append(nodes[-1][1])
    nodes.append((tree, _node_columns(schema, tree, parts), parts))
    return nodes


def _node_columns(schema, node, parts):
    word = node[0]
    if word == "table":
        return tuple([f"{node[2]}.{name}" for name in column_names(definition_of(schema, node[1]))])
    if word == "empty":
        return node[1]
    if word == "pair":
        return parts[0] + parts[1]
    if word == "read":
        return tuple([out for _, out in node[2]])
    if word == "group":
        return node[2] + tuple([out for _, _, out in node[3]])
    return parts[0]


def _check_labels(node, parts):
    for label in _labels_used(node):
        if label not in parts[0]:
            raise NoColumn(label)


def _labels_used(node):
    """Return the labels that the node itself looks up in its part, from left to right."""
    word = node[0]
    if word == "where":
        return labels_of(node[2])
    if word == "read":
        return [label for label, _ in node[2]]
    if word == "group":
        return list(node[2]) + [label for _, label, _ in node[3] if label is not None]
    if word == "top":
        return [label for label, _ in node[2]]
    return []


def _check_repeated(columns):
    for at, label in enumerate(columns):
        if label in columns[:at]:
            raise Repeated(label)
