"""Chains of steps, and normal trees, to which no shrinking rule applies."""

from storedesk.errors import NoPlace, NoStep
from storedesk.rules import rewritten
from storedesk.steps import SHRINKING, take_step
from storedesk.trees import places, subtree
from storedesk.values import same


def shrinking_steps(schema, tree):
    """Return the shrinking steps that can be taken, by place in preorder and then by rule."""
    steps = []
    for place in places(tree):
        node = subtree(tree, place)
        steps.extend([(rule, place, ()) for rule in SHRINKING if rewritten(schema, node, rule) is not None])
    return steps


def run_chain(schema, tree, chain):
    """Return the tree to which the chain of steps leads."""
    result = tree
    for step in chain:
        result = take_step(schema, result, step)
    return result


def is_chain(schema, tree, chain, end):
    """Tell whether the chain leads from the tree to the tree end."""
    try:
        result = run_chain(schema, tree, chain)
    except (NoPlace, NoStep):
        return False
    return same(result, end)


def is_normal(schema, tree):
    """Tell whether no shrinking rule applies at any place."""
    return _first_step(schema, tree) is None


def normal_chain(schema, tree):
    """Return the steps that make the tree normal, always the first one that can be taken."""
    chain = []
    result = tree
    step = _first_step(schema, result)
    while step is not None:
        chain.append(step)
        result = take_step(schema, result, step)
        step = _first_step(schema, result)
    return chain


def _first_step(schema, tree):
    for place in places(tree):
        node = subtree(tree, place)
        for rule in SHRINKING:
            if rewritten(schema, node, rule) is not None:
                return (rule, place, ())
    return None


def normal(schema, tree):
    """Return the normal tree to which the normal chain leads."""
    return run_chain(schema, tree, normal_chain(schema, tree))
