"""Pieces that are written to disks, some of them drawn, and plain readings of points 64 to 69 and 73."""

import copy

from storedesk.disks import Disk
from tests.support import exact

NO_PAGES = ((0, ("leaf", ())),)


def leaf(*values):
    """A content that is different for different values."""
    return ("leaf", tuple([((value,), (value,)) for value in values]))


def begin(group):
    return ("record", ("begin", group))


def image(group, number, before, after):
    return ("record", ("image", group, number, before, after))


def commit(group):
    return ("record", ("commit", group))


def drop(group):
    return ("record", ("drop", group))


def page(number, content, mark):
    return ("page", number, content, mark)


def cut(position):
    return ("cut", position)


def written(*pieces):
    disk = Disk()
    for piece in pieces:
        disk.write(piece)
    return disk


def state_of(*pieces):
    return written(*pieces).state()


def plain_state(pieces):
    """Point 64 over the whole list of pieces."""
    pages = {piece[1]: piece[1:] for piece in pieces if piece[0] == "page"}
    records = [piece[1] for piece in pieces if piece[0] == "record"]
    first = max([piece[1] for piece in pieces if piece[0] == "cut"], default=0)
    return tuple([pages[number] for number in sorted(pages)]), first, tuple(records[first:])


def plain_images(state):
    """The triples (position, record, whether it is missing) of the image records."""
    pages, first, log = state
    found = []
    for position, record in enumerate(log, first):
        if record[0] == "image":
            marks = [mark for number, _, mark in pages if number == record[2]]
            found.append((position, record, not marks or marks[0] < position))
    return found


def plain_paper(state):
    log = state[2]
    committed = sorted({record[1] for record in log if record[0] == "commit"})
    dropped = [record[1] for record in log if record[0] == "drop"]
    open_groups = sorted({record[1] for record in log if record[0] == "begin"} - set(committed) - set(dropped))
    undo = {}
    for record in reversed(log):
        if record[0] == "image" and record[1] in open_groups:
            undo[record[2]] = record[3]
    missing = tuple([position for position, _, lacks in plain_images(state) if lacks])
    return tuple(committed), tuple(open_groups), missing, tuple([(number, undo[number]) for number in sorted(undo)])


def plain_pages(state):
    contents = {number: content for number, content, _ in state[0]}
    for _, record, lacks in plain_images(state):
        if lacks:
            contents[record[2]] = record[4]
    contents.update(dict(plain_paper(state)[3]))
    found = tuple([(number, contents[number]) for number in sorted(contents) if contents[number] is not None])
    return found or NO_PAGES


def plain_sweepable(state):
    _, first, log = state
    bars = [position for position, record in enumerate(log, first)
            if record[0] == "begin" and record[1] in plain_paper(state)[1]]
    return min([first + len(log), *bars, *plain_paper(state)[2]])


def plain_is_ahead(pieces):
    """Point 73, with all records ever written and the position of the last cut."""
    for at, piece in enumerate(pieces):
        state = plain_state(pieces[:at])
        records = dict(enumerate(state[2], state[1]))
        if piece[0] == "page":
            record = records.get(piece[3], ("none",))
            if record[0] != "image" or record[2] != piece[1] or exact(record[4]) != exact(piece[2]):
                return False
        if piece[0] == "cut" and not state[1] <= piece[1] <= plain_sweepable(state):
            return False
    return True


def random_pieces(draw, count, loose=0.5):
    """Pieces that fit points 64 and 66; so many of the pages and cuts are not what an engine would write."""
    pieces = []
    contents = {}
    group, ended = None, True
    while len(pieces) < count:
        state = plain_state(pieces)
        first, end = state[1], state[1] + len(state[2])
        way = draw.random()
        if way < 0.25:
            piece = random_page(draw, state, loose)
        elif way < 0.35:
            piece = cut(draw.randint(first, end if draw.random() < loose else plain_sweepable(state)))
            if group is not None and not ended and piece[1] > group:
                continue
        elif ended:
            group, ended, piece = end, False, begin(end)
        elif way < 0.5:
            ended, piece = True, draw.choice((commit, drop))(group)
        else:
            number, after = draw.randrange(4), draw.choice((None, leaf(1), leaf(True), leaf(2),
                                                            leaf(draw.randrange(9))))
            before = contents.get(number)
            if exact(before) == exact(after):
                continue
            contents[number] = after
            piece = image(group, number, before, after)
        if piece is not None:
            pieces.append(piece)
    return pieces


def random_page(draw, state, loose):
    if draw.random() < loose:
        return page(draw.randrange(4), draw.choice((None, leaf(1), leaf(True))), draw.randrange(state[1] + 8))
    images = plain_images(state)
    if not images:
        return None
    position, record, _ = draw.choice(images)
    return page(record[2], copy.deepcopy(record[4]), position)
