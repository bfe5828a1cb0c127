"""Steps: replacing a node of a tree without changing its columns and its answer."""

from storedesk.conditions import conjuncts
from storedesk.errors import NoPlace, NoStep
from storedesk.rules import filtered, own_items, parted, rewritten
from storedesk.trees import columns_of, replaced, subtree

RULES = (
    "fold", "drop", "stop", "merge", "sink_left", "sink_right", "sink_read", "sink_group", "sink_sides", "join_reads",
    "drop_read", "narrow_left", "narrow_right", "hollow", "drop_top", "swap", "turn_right", "turn_left", "arrange",
)
SHRINKING = (
    "fold", "drop", "stop", "merge", "sink_left", "sink_right", "sink_read", "sink_group", "sink_sides", "join_reads",
    "drop_read", "narrow_left", "narrow_right", "hollow", "drop_top",
)
MOST_LEAVES = 5


def blocks(tree):
    """Return the leaves and the conditions of the tree's block."""
    if tree[0] == "where":
        leaves, conditions = blocks(tree[1])
        return leaves, conditions + conjuncts(tree[2])
    if tree[0] == "pair":
        leaves, conditions = blocks(tree[1])
        more_leaves, more_conditions = blocks(tree[2])
        return leaves + more_leaves, conditions + more_conditions
    return [tree], []


def arranged(schema, tree, order):
    """Return the tree with the leaves of its block in this order, and each condition as far down as it can be."""
    leaves, conditions = blocks(tree)
    if len(leaves) > MOST_LEAVES or sorted(order) != list(range(len(leaves))):
        raise NoStep("arrange", ())
    built = None
    columns = ()
    for at in order:
        leaf_columns = columns_of(schema, leaves[at])
        ready, conditions = parted(conditions, leaf_columns)
        part = filtered(leaves[at], ready)
        columns = columns + leaf_columns
        if built is None:
            built = part
        else:
            ready, conditions = parted(conditions, columns)
            built = filtered(("pair", built, part), ready)
    wanted = columns_of(schema, tree)
    return built if columns == wanted else ("read", built, own_items(wanted))


def take_step(schema, tree, step):
    """Return the tree after the step."""
    rule, place, order = step
    node = subtree(tree, place)
    result = _changed(schema, node, rule, order)
    if result is None:
        raise NoStep(rule, place)
    return replaced(tree, place, result)


def _changed(schema, node, rule, order):
    """Return what becomes of the node, or None if the rule cannot be taken there in this way."""
    if rule == "arrange":
        return _arranged_or_none(schema, node, order)
    if rule not in RULES or order != ():
        return None
    return rewritten(schema, node, rule)


def _arranged_or_none(schema, node, order):
    try:
        return arranged(schema, node, order)
    except NoStep:
        return None


def applies(schema, tree, step):
    """Tell whether the step can be taken."""
    try:
        take_step(schema, tree, step)
    except (NoPlace, NoStep):
        return False
    return True
