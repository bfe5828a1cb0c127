"""The whole program: drawn scripts of many calls through desks, against the plain reading of the document."""

import random
import unittest

from storedesk.answers import shown
from storedesk.books import counts_of, is_book
from storedesk.deltas import apply_delta
from storedesk.desk import Desk
from storedesk.disks import Disk, is_ahead, recovered_pages
from storedesk.errors import Stopped
from storedesk.histories import is_order, replay, serial_order
from storedesk.joins import optimize
from storedesk.pages import entries_of, is_tree
from storedesk.printer import write_query
from storedesk.reader import read_query
from storedesk.recovery import Engine
from storedesk.rewriting import run_chain
from storedesk.sessions import replay_lines
from storedesk.shelves import Shelf
from storedesk.versions import VersionStore
from storedesk.views import View
from tests.disked import begin, commit, cut, image, page
from tests.drawn import plain_answer
from tests.plainly import TOWN, TOWN_BOOK, PlainDesk, town_line
from tests.support import StoreCase, exact

NAMES = ("zed", "ann", "bob")


class DiskReading:
    """What a desk must have written: each delta as a group, and each save as a checkpoint."""

    def __init__(self, case, order):
        self.case = case
        self.order = order
        self.contents = {0: ("leaf", ())}
        self.book = tuple([(definition[0], ()) for definition in TOWN])
        # For each page, the position of its latest image record and whether the page has been written since.
        self.latest = {}
        self.end = self.first = 0
        self.count = self.done = 0

    def follow(self, pieces, writes):
        """Read the pieces that are new, for the writes that are new."""
        for write in writes[self.done:]:
            if write == "save":
                self.save(pieces)
            else:
                self.group(pieces, write)
        self.done = len(writes)
        self.case.assertSame(len(pieces), self.count)

    def next(self, pieces):
        self.count += 1
        return pieces[self.count - 1]

    def group(self, pieces, delta):
        number = self.end
        self.case.assertSame(self.next(pieces), begin(number))
        images = []
        piece = self.next(pieces)
        while piece[1][0] == "image":
            images.append(piece)
            piece = self.next(pieces)
        self.case.assertSame(piece, commit(number))
        changed = [one[1][2] for one in images]
        self.case.assertSame(changed, sorted(set(changed)))
        for at, one in enumerate(images):
            _, _, one_page, _, after = one[1]
            before = self.contents.get(one_page)
            self.case.assertSame(one, image(number, one_page, before, after))
            self.case.assertNotEqual(exact(before), exact(after))
            self.contents[one_page] = after
            self.latest[one_page] = (number + 1 + at, False)
        self.contents = {one: content for one, content in self.contents.items() if content is not None}
        self.book = apply_delta(TOWN, self.book, delta)
        pages = tuple(sorted(self.contents.items()))
        self.case.assertTrue(is_tree(pages, self.order))
        self.case.assertSame(entries_of(pages), entries_of(Shelf(TOWN, self.book).pages))
        self.end += len(images) + 2

    def save(self, pieces):
        for number in sorted(self.latest):
            position, clean = self.latest[number]
            if not clean:
                self.case.assertSame(self.next(pieces), page(number, self.contents.get(number), position))
                self.latest[number] = (position, True)
        if self.end > self.first:
            self.case.assertSame(self.next(pieces), cut(self.end))
            self.first = self.end


class WholeCase(StoreCase):
    def compare(self, desk, plain, order):
        self.assertSame(desk.book, plain.store.book)
        self.assertSame(desk.history, plain.store.history)
        self.assertSame(desk.entries, tuple(plain.entries))
        self.assertSame(desk.views, tuple(sorted(plain.kept)))
        _, book, vector, changes, clashes, _, _ = plain.copy.shown(TOWN, plain.base)
        self.assertSame((desk.book, desk.vector, desk.changes, desk.clashes), (book, vector, changes, clashes))
        self.assertTrue(is_book(TOWN, desk.book))
        pages = recovered_pages(desk.disk.state())
        self.assertSame(Shelf.loaded(TOWN, pages, order=order).read_book(), desk.book)


class TestScripts(WholeCase):
    def scripted(self, seed, order=8, calls=40):
        """A desk and the plain reading after a drawn script; each line is compared."""
        draw = random.Random(seed)
        desk, plain = Desk(TOWN, TOWN_BOOK, Disk(), order=order), PlainDesk(TOWN, TOWN_BOOK)
        reading = DiskReading(self, order)
        names = ("ann", "bob", "cy")[:draw.randrange(1, 4)]
        while len(desk) < calls and len(desk.history) < 24:
            session, line = draw.choice(names), town_line(draw)
            wanted = plain.run(session, line)
            self.assertSame(desk.run(session, line), wanted, plain.entries)
            self.compare(desk, plain, order)
            reading.follow(desk.disk.written(), plain.writes)
        self.assertTrue(is_ahead(desk.disk.written()))
        return desk, plain

    def test_against_the_plain_reading(self):
        kinds = set()
        for seed in range(60):
            desk, _ = self.scripted(seed, (4, 5, 8, 16)[seed % 4])
            kinds |= {answer[:2] if answer[0] == "refused" else answer[:1] for _, _, answer in desk}
            # Any right order of the history gives the committed book.
            order = serial_order(TOWN, desk.history)
            self.assertIs(is_order(TOWN, desk.history, order), True)
            self.assertSame(replay(TOWN, TOWN_BOOK, desk.history, order), desk.book)
        for kind in ("begun", "committed", "dropped", "rows", "changed", "undone", "kept", "forgotten", "saved"):
            self.assertIn((kind,), kinds)
        for name in ("BadSyntax", "Busy", "Closed", "NameTaken", "NoView", "NoTable", "NoColumn", "Repeated", "Unlike",
                     "CheckFailed", "KeyTaken", "Dangling", "NotSerial"):
            self.assertIn(("refused", name), kinds)

    def test_the_same_lines_again(self):
        for seed in range(200, 210):
            first, _ = self.scripted(seed, calls=25)
            second = Desk(TOWN, TOWN_BOOK, Disk())
            for session, line, wanted in first.entries:
                self.assertSame(second.run(session, line), wanted)
            self.assertSame((second.book, second.history, second.disk.written()),
                            (first.book, first.history, first.disk.written()))

    def test_lines_without_views_are_those_of_sessions(self):
        for seed in range(300, 310):
            desk, _ = self.scripted(seed, calls=25)
            entries = [entry for entry in desk if entry[1].split(" ")[0] not in ("keep", "show", "forget", "save")]
            lines = [(session, line) for session, line, _ in entries]
            self.assertSame(replay_lines(TOWN, TOWN_BOOK, lines), [answer for _, _, answer in entries])

    def test_stops(self):
        """A disk that stops at any number of pieces recovers the book that was committed before the line."""
        for seed in range(400, 406):
            whole, _ = self.scripted(seed, calls=25)
            total = len(whole.disk.written())
            for fuel in range(3, total, 2):
                desk = Desk(TOWN, TOWN_BOOK, Disk(fuel=fuel))
                book = desk.book
                for session, line, wanted in whole.entries:
                    try:
                        result = desk.run(session, line)
                    except Stopped:
                        break
                    self.assertSame(result, wanted)
                    book = desk.book
                self.assertSame(desk.entries, whole.entries[:len(desk)])
                self.assertSame(desk.disk.written(), whole.disk.written()[:fuel])
                self.assertFails(Stopped, {}, desk.run, "ann", "from city as c")
                self.assertSame(Engine(TOWN, desk.disk.twin()).read_book(), book)
                desk.disk.fuel = None
                again, plain = Desk.recovered(TOWN, desk.disk), PlainDesk(TOWN, book, groups=[])
                for session, line, _ in whole.entries[len(desk):len(desk) + 5]:
                    self.assertSame(again.run(session, line), plain.run(session, line))
                self.compare(again, plain, 8)
                self.assertTrue(is_ahead(again.disk.written()))

    def test_meetings(self):
        meetings = clashes = 0
        for seed in range(500, 530):
            draw = random.Random(seed)
            names = draw.choice((NAMES[:2], NAMES))
            desks = [Desk(TOWN, TOWN_BOOK, Disk(), name=name, names=names) for name in names]
            plain = [PlainDesk(TOWN, TOWN_BOOK, name, names) for name in names]
            readings = [DiskReading(self, 8) for _ in names]
            while sum([len(desk.changes) for desk in desks]) < 40 and max([len(desk.history) for desk in desks]) < 20:
                one, other = draw.sample(range(len(names)), 2)
                if draw.random() < 0.2:
                    self.assertSame(desks[one].meet(desks[other]), plain[one].meet(plain[other]))
                    self.assertSame(desks[one].book, desks[other].book)
                    meetings += 1
                else:
                    session, line = draw.choice(("x", "y")), town_line(draw)
                    self.assertSame(desks[one].run(session, line), plain[one].run(session, line))
                for at, desk in enumerate(desks):
                    self.compare(desk, plain[at], 8)
                    readings[at].follow(desk.disk.written(), plain[at].writes)
                    clashes += len(desk.clashes) > 0
                if max([len(desk) for desk in desks]) == 40:
                    break
            for desk in desks:
                self.assertTrue(is_ahead(desk.disk.written()))
        self.assertGreater(meetings, 100)
        self.assertGreater(clashes, 30)


class TestRoads(WholeCase):
    texts = (
        "from person as p", "from person as p with city as c where p.city = c.id and c.size = 0 read p.id, c.size as s",
        "from note as n with person as p where n.on = p.id and n.text != \"y\" top 2 by p.id down",
        "from person as p where p.id > 1 and p.id <= 3 group by p.city tell count as n, most p.id as m",
        "from city as c read c.id as x minus (from person as p read p.city as x)",
        "from person as a with person as b with city as c where a.boss = b.id and b.city = c.id read a.id, c.id",
    )

    def test_each_road_gives_the_plain_answer(self):
        for seed in range(600, 612):
            draw = random.Random(seed)
            desk = Desk(TOWN, TOWN_BOOK, Disk(), order=4)
            store = VersionStore(TOWN, TOWN_BOOK)
            views = [View(TOWN, TOWN_BOOK, read_query(text)) for text in self.texts]
            for _ in range(30):
                if len(desk.history) == 24:
                    break
                count = len(desk.history)
                desk.run(draw.choice(("ann", "bob")), town_line(draw, views=False))
                for _, _, delta in desk.history[count:]:
                    number = store.begin()
                    store.edit(number, delta)
                    store.commit(number)
                    for view in views:
                        view.turn(delta)
            number = store.begin()
            engine = Engine(TOWN, desk.disk.twin(), order=4)
            shelf = Shelf.loaded(TOWN, engine.pages, order=4)
            for text, view in zip(self.texts, views):
                self.check(desk, text, store.query(number, read_query(text)), [engine.answer, shelf.answer], view)

    def check(self, desk, text, seen, answers, view):
        tree = read_query(text)
        wanted = plain_answer(desk.book, tree, TOWN)
        for answer in answers:
            self.assertSame(answer(tree), wanted)
        self.assertSame(view.rows, wanted)
        self.assertSame(seen, shown(TOWN, desk.book, tree))
        cheaper = run_chain(TOWN, tree, optimize(TOWN, counts_of(desk.book), tree))
        self.assertSame(plain_answer(desk.book, cheaper, TOWN), wanted)
        self.assertSame(answers[1](cheaper), wanted)
        self.assertSame(desk.run("eve", text)[2], tuple(seen))
        self.assertSame(sorted(desk.run("eve", write_query(cheaper, lines=True))[2], key=repr),
                        sorted(wanted, key=repr))


if __name__ == "__main__":
    unittest.main()
