"""The rules that replace a node by another tree with the same columns and the same answer."""

from storedesk.conditions import conjoined, conjuncts, folded, labels_of, renamed
from storedesk.trees import children, columns_of, replaced
from storedesk.values import same


def own_items(columns):
    """Return the items that read each of the columns under its own label."""
    return tuple([(label, label) for label in columns])


def filtered(tree, conditions):
    """Return the tree under a where node with the conjoined conditions, or the tree itself if there are none."""
    if len(conditions) == 0:
        return tree
    return ("where", tree, conjoined(conditions))


def parted(conditions, columns):
    """Return the conditions that have labels among these columns only, and the others."""
    inside = []
    outside = []
    for condition in conditions:
        if all([label in columns for label in labels_of(condition)]):
            inside.append(condition)
        else:
            outside.append(condition)
    return inside, outside


def rewritten(schema, node, rule):
    """Return what the rule makes of the node, or None if its form does not fit; rule is not "arrange"."""
    rewrite = REWRITES[rule]
    return rewrite(schema, node)


def _stands_over(node, word, beneath):
    """Tell whether the node is of the kind `word`, and its only or left part of the kind `beneath`."""
    return node[0] == word and node[1][0] == beneath


# Each of the following functions does what `rewritten` says for one rule.


def _fold(_, node):
    if node[0] != "where":
        return None
    condition = folded(node[2])
    return None if same(condition, node[2]) else ("where", node[1], condition)


def _drop(_, node):
    return node[1] if node[0] == "where" and node[2] == ("true",) else None


def _stop(schema, node):
    if node[0] != "where" or node[2] != ("false",):
        return None
    return ("empty", columns_of(schema, node))


def _merge(_, node):
    if not _stands_over(node, "where", "where"):
        return None
    _, part, inner = node[1]
    return ("where", part, ("and", inner, node[2]))


def _sink_left(schema, node):
    return _sunk_into_pair(schema, node, 0)


def _sink_right(schema, node):
    return _sunk_into_pair(schema, node, 1)


def _sunk_into_pair(schema, node, side):
    if not _stands_over(node, "where", "pair"):
        return None
    part = children(node[1])[side]
    sinking, staying = parted(conjuncts(node[2]), columns_of(schema, part))
    if len(sinking) == 0:
        return None
    return filtered(replaced(node[1], (side,), filtered(part, sinking)), staying)


def _sink_read(_, node):
    if not _stands_over(node, "where", "read"):
        return None
    _, part, items = node[1]
    condition = renamed(node[2], {out: label for label, out in items})
    return ("read", ("where", part, condition), items)


def _sink_group(_, node):
    if not _stands_over(node, "where", "group"):
        return None
    _, part, by, aggregates = node[1]
    sinking, staying = parted(conjuncts(node[2]), by)
    if len(by) == 0 or len(sinking) == 0:
        return None
    return filtered(("group", filtered(part, sinking), by, aggregates), staying)


def _sink_sides(_, node):
    if not _stands_over(node, "where", "union") and not _stands_over(node, "where", "minus"):
        return None
    word, left, right = node[1]
    return (word, ("where", left, node[2]), ("where", right, node[2]))


def _join_reads(_, node):
    if not _stands_over(node, "read", "read"):
        return None
    _, part, inner = node[1]
    sources = {out: label for label, out in inner}
    return ("read", part, tuple([(sources[label], out) for label, out in node[2]]))


def _drop_read(schema, node):
    if node[0] != "read" or node[2] != own_items(columns_of(schema, node[1])):
        return None
    return node[1]


def _narrow_left(schema, node):
    return _narrowed(schema, node, 0)


def _narrow_right(schema, node):
    return _narrowed(schema, node, 1)


def _narrowed(schema, node, side):
    if not _stands_over(node, "read", "pair"):
        return None
    part = children(node[1])[side]
    columns = columns_of(schema, part)
    used = [label for label, _ in node[2]]
    kept = [label for label in columns if label in used]
    if len(kept) == 0:
        kept = [columns[0]]
    if len(kept) == len(columns):
        return None
    return ("read", replaced(node[1], (side,), ("read", part, own_items(kept))), node[2])


def _hollow(schema, node):
    word = node[0]
    empty = [part[0] == "empty" for part in children(node)]
    if not any(empty):
        return None
    if word == "union":
        return node[2] if empty[0] else node[1]
    if word == "minus" and not empty[0]:
        return node[1]
    if word == "group" and len(node[2]) == 0:
        return None
    return ("empty", columns_of(schema, node))


def _drop_top(schema, node):
    if node[0] != "top":
        return None
    if node[3] == 0:
        return ("empty", columns_of(schema, node))
    return node[1] if node[1][0] == "top" and node[3] >= node[1][3] else None


def _swap(schema, node):
    if node[0] != "pair":
        return None
    return ("read", ("pair", node[2], node[1]), own_items(columns_of(schema, node)))


def _turn_right(_, node):
    if not _stands_over(node, "pair", "pair"):
        return None
    _, left, middle = node[1]
    return ("pair", left, ("pair", middle, node[2]))


def _turn_left(_, node):
    if node[0] != "pair" or node[2][0] != "pair":
        return None
    _, middle, right = node[2]
    return ("pair", ("pair", node[1], middle), right)


REWRITES = {
    "fold": _fold,
    "drop": _drop,
    "stop": _stop,
    "merge": _merge,
    "sink_left": _sink_left,
    "sink_right": _sink_right,
    "sink_read": _sink_read,
    "sink_group": _sink_group,
    "sink_sides": _sink_sides,
    "join_reads": _join_reads,
    "drop_read": _drop_read,
    "narrow_left": _narrow_left,
    "narrow_right": _narrow_right,
    "hollow": _hollow,
    "drop_top": _drop_top,
    "swap": _swap,
    "turn_right": _turn_right,
    "turn_left": _turn_left,
}
