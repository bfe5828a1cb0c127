"""Histories of committed transactions: what each of them reads, and in which orders they may be applied."""

from storedesk.deltas import apply_delta
from storedesk.schemas import definition_of, picked
from storedesk.values import row_key


def item_place(item):
    """Return a triple by which items are ordered, and which is equal for the same items only."""
    table, key = item
    return (table, 0, ()) if key is None else (table, 1, row_key(key))


def ordered_items(items):
    """Return the list of the items, ascending, each once."""
    placed = {item_place(item): item for item in items}
    return [placed[place] for place in sorted(placed)]


def full_reads(schema, record):
    """Return the list of the items that the record fully reads, ascending, each once."""
    _, reads, delta = record
    items = list(reads)
    for table, key, _, after in delta:
        items.append((table, key))
        if after is None:
            items.extend([(referring, None) for referring in _tables_referring(schema, table)])
        else:
            items.extend(_items_referred(definition_of(schema, table), after))
    return ordered_items(items)


def _tables_referring(schema, table):
    """Return the names of the tables that have a reference to the table."""
    return [definition[0] for definition in schema if table in [name for _, name in definition[3]]]


def _items_referred(definition, row):
    """Return the items of the rows that the row refers to."""
    targets = [(table, picked(definition, row, columns)) for columns, table in definition[3]]
    return [(table, key) for table, key in targets if None not in key]


def links(schema, history):
    """Return the list of the links, pairs (first, second) of record numbers, ascending, each once."""
    reads = [{item_place(item): True for item in full_reads(schema, one)} for one in history]
    found = {}
    for reader, record in enumerate(history):
        for writer, other in enumerate(history):
            if reader != writer and _reads_from(reads[reader], other[2]):
                link = (writer, reader) if writer < record[0] else (reader, writer)
                found[link] = True
    return sorted(found)


def _reads_from(places, delta):
    """Tell whether an item that the delta writes is among the places that are read, itself or as part of its table."""
    for table, key, _, _ in delta:
        if item_place((table, key)) in places or item_place((table, None)) in places:
            return True
    return False


def is_order(schema, history, order):
    """Tell whether the tuple of numbers is a right order of the history."""
    if sorted(order) != list(range(len(history))):
        return False
    return all([order.index(first) < order.index(second) for first, second in links(schema, history)])


def is_ring(schema, history, ring):
    """Tell whether the tuple of numbers is a ring of the history."""
    if len(ring) < 2 or len(set(ring)) < len(ring):
        return False
    pairs = links(schema, history)
    return all([pair in pairs for pair in zip(ring, (*ring[1:], ring[0]))])


def serial_order(schema, history):
    """Return the serial order, or None if there is a ring."""
    taken, rest = _taken_and_rest(links(schema, history), len(history))
    return tuple(taken) if len(rest) == 0 else None


def _taken_and_rest(pairs, count):
    """Return the record numbers that can be taken, in the order in which they are, and those that are left over."""
    taken = []
    rest = list(range(count))
    free = _least_free(pairs, rest)
    while free is not None:
        taken.append(free)
        rest.remove(free)
        free = _least_free(pairs, rest)
    return taken, rest


def _least_free(pairs, rest):
    """Return the least number of the rest to which no link leads from another one of it, or None."""
    for number in rest:
        if _linked_to(pairs, rest, number) is None:
            return number
    return None


def _linked_to(pairs, rest, number):
    """Return the least number of the rest from which a link leads to this number, or None."""
    for first, second in pairs:
        if second == number and first in rest:
            return first
    return None


def ring_of(schema, history):
    """Return a ring of the history, or None if there is none."""
    pairs = links(schema, history)
    _, rest = _taken_and_rest(pairs, len(history))
    if len(rest) == 0:
        return None
    # A link leads to each number of the rest from another one of it, so the way back along links comes round.
    path = [rest[0]]
    earlier = _linked_to(pairs, rest, path[-1])
    while earlier not in path:
        path.append(earlier)
        earlier = _linked_to(pairs, rest, path[-1])
    return tuple(path[path.index(earlier):][::-1])


def replay(schema, book, history, numbers):
    """Return the book after the deltas of these records, one after another."""
    result = book
    for number in numbers:
        result = apply_delta(schema, result, history[number][2])
    return result
