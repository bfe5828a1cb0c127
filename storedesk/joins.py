"""Prices of trees, and the order of the parts of a block that makes the price least."""

from storedesk.conditions import conjuncts
from storedesk.errors import TooMany
from storedesk.rewriting import normal_chain, run_chain
from storedesk.steps import MOST_LEAVES, arranged, blocks, take_step
from storedesk.trees import children, places_up, subtree

FACTORS = {"=": 10, "!=": 1, "<": 3, "<=": 3, ">": 3, ">=": 3}
OTHER_FACTOR = 2


def size(counts, tree):
    """Return the estimate of the number of rows of the tree's answer."""
    return _measured(counts, tree)[0]


def price(counts, tree):
    """Return the sum of the sizes of all nodes but the read nodes."""
    return _measured(counts, tree)[1]


def _measured(counts, tree):
    """Return the size and the price."""
    parts = [_measured(counts, part) for part in children(tree)]
    own = _node_size(counts, tree, [part_size for part_size, _ in parts])
    beneath = sum([part_price for _, part_price in parts])
    return own, beneath if tree[0] == "read" else beneath + own


def _node_size(counts, node, sizes):
    """Return the size of a node whose parts have these sizes."""
    word = node[0]
    if word == "table":
        return counts[node[1]]
    if word == "empty":
        return 0
    if word == "pair":
        return sizes[0] * sizes[1]
    if word == "union":
        return sizes[0] + sizes[1]
    if word == "top":
        return min(sizes[0], node[3])
    if word == "group":
        return 1 if len(node[2]) == 0 else _divided_up(sizes[0], 2)
    if word == "where":
        return _divided_up(sizes[0], _factor(node[2]))
    return sizes[0]


def _divided_up(number, divisor):
    return (number + divisor - 1) // divisor


def _factor(condition):
    """Return the product of the factors of the conjuncts."""
    total = 1
    for conjunct in conjuncts(condition):
        total = total * (FACTORS[conjunct[1]] if conjunct[0] == "compare" else OTHER_FACTOR)
    return total


def best_order(schema, counts, tree):
    """Return the order of the tree's block whose arranged tree has the least price."""
    leaves, _ = blocks(tree)
    if len(leaves) > MOST_LEAVES:
        raise TooMany(len(leaves))
    best = None
    least = None
    for order in _orders(len(leaves)):
        cost = price(counts, arranged(schema, tree, order))
        if least is None or cost < least:
            best = order
            least = cost
    return best


def _orders(count):
    """Return all orders of the indexes below count, ascending."""
    orders = [()]
    for _ in range(count):
        orders = [(*order, at) for order in orders for at in range(count) if at not in order]
    return orders


def optimize(schema, counts, tree):
    """Return the normal chain, followed by those steps that arrange a block for a lower price."""
    chain = normal_chain(schema, tree)
    result = run_chain(schema, tree, chain)
    for place in _block_places(result):
        step = ("arrange", place, best_order(schema, counts, subtree(result, place)))
        changed = take_step(schema, result, step)
        if price(counts, changed) < price(counts, result):
            chain.append(step)
            result = changed
    return chain


def _block_places(tree):
    """Return the places at which a block of 2 to 5 leaves begins, in postorder."""
    found = []
    for place in places_up(tree):
        node = subtree(tree, place)
        if _is_joining(node) and (place == () or not _is_joining(subtree(tree, place[:-1]))):
            leaves, _ = blocks(node)
            if 2 <= len(leaves) <= MOST_LEAVES:
                found.append(place)
    return found


def _is_joining(node):
    return node[0] in ("where", "pair")
