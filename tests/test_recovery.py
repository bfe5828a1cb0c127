"""Points 70 to 73: an engine on a disk, the pieces that it writes, and what is recovered after stops."""

import random
import unittest

from storedesk.answers import answer
from storedesk.books import empty_book, make_book
from storedesk.deltas import apply_delta, difference, inverse
from storedesk.disks import Disk, is_ahead, recovered_pages
from storedesk.errors import Busy, Closed, Mismatch, NoColumn, NoTable, Repeated, Stopped, Unlike
from storedesk.pages import entries_of, is_tree
from storedesk.reader import read_query
from storedesk.recovery import Engine
from storedesk.shelves import Shelf
from tests import drawn
from tests.disked import begin, commit, cut, drop, image, page, plain_images, plain_paper, plain_sweepable
from tests.samples import BOOK, SCHEMA
from tests.support import StoreCase, exact, spoil

ONE = (("t", (("k", "any"), ("x", "any")), ("k",), (), ()),)
EMPTY = ("leaf", ())


def put(*row):
    return ("t", row[:1], None, row)


def taken(*row):
    return ("t", row[:1], row, None)


def turned(before, after):
    return ("t", before[:1], before, after)


def leaf(*rows):
    """The content of a leaf with these rows of the table t."""
    return ("leaf", tuple([(("t", row[0]), row) for row in rows]))


def rows(*numbers):
    return [(number, f"x{number}") for number in numbers]


def filled(disk, *numbers, order=4):
    """An engine with one committed group that puts these rows."""
    engine = Engine(ONE, disk, order=order)
    engine.begin()
    engine.apply(tuple([put(*row) for row in rows(*numbers)]))
    engine.commit()
    return engine


def changes_between(then, now):
    """Triples (number, before, after) for two tuples of pages, where they differ."""
    then, now = dict(then), dict(now)
    numbers = [one for one in sorted({**then, **now}) if exact(then.get(one)) != exact(now.get(one))]
    return [(one, then.get(one), now.get(one)) for one in numbers]


class EngineCase(StoreCase):
    def wrote(self, engine, wanted, call, *rest, **more):
        """The call writes exactly these pieces; return what it returns."""
        count = len(engine.disk.written())
        result = call(*rest, **more)
        self.assertSame(engine.disk.written()[count:], list(wanted))
        return result

    def check(self, engine, schema, book, order=8):
        """The book in memory, its pages, the dirty pages, and that the pieces keep ahead."""
        self.assertSame(engine.read_book(), book)
        self.assertTrue(is_tree(engine.pages, order))
        self.assertSame(entries_of(engine.pages), entries_of(Shelf(schema, book).pages))
        dirty = sorted({record[2] for _, record, lacks in plain_images(engine.disk.state()) if lacks})
        self.assertSame(engine.dirty_pages(), dirty)
        self.assertTrue(is_ahead(engine.disk.written()))
        if engine.group is None:
            self.assertSame(recovered_pages(engine.disk.state()), engine.pages)


class TestPieces(EngineCase):
    def test_an_empty_disk(self):
        for disk in (Disk(), Disk(fuel=0)):
            engine = Engine(ONE, disk)
            self.assertIs(engine.disk, disk)
            self.assertIsNone(engine.group)
            self.assertSame(engine.pages, ((0, EMPTY),))
            self.assertSame((engine.read_book(), engine.dirty_pages(), disk.written()), ((("t", ()),), [], []))
            self.assertSame(engine.answer(("table", "t", "t")), [])
            self.assertSame((engine.flush(), engine.flush(0)), (0, 0))
            self.assertIsNone(engine.sweep())
            self.assertIsNone(engine.checkpoint())
            self.assertSame(disk.written(), [])
        self.assertIs(Engine(order=4, disk=disk, schema=ONE).disk, disk)

    def test_a_group(self):
        engine = Engine(ONE, Disk())
        self.assertSame(self.wrote(engine, [begin(0)], engine.begin), 0)
        self.assertSame(engine.group, 0)
        first = leaf((1, "a"))
        self.assertIsNone(self.wrote(engine, [image(0, 0, EMPTY, first)], engine.apply, (put(1, "a"),)))
        self.assertIsNone(self.wrote(engine, [], engine.apply, ()))
        second = leaf((True, "b"), (1, True))
        self.wrote(engine, [image(0, 0, first, second)], engine.apply,
                   delta=(put(True, "b"), turned((1, "a"), (1, True))))
        self.assertSame(engine.read_book(), (("t", ((True, "b"), (1, True))),))
        self.assertIsNone(self.wrote(engine, [commit(0)], engine.commit))
        self.assertIsNone(engine.group)
        self.assertSame(self.wrote(engine, [begin(4)], engine.begin), 4)
        self.assertSame(engine.group, 4)
        third = leaf((True, "b"), (1, 1))
        self.wrote(engine, [image(4, 0, second, third)], engine.apply, (turned((1, True), (1, 1)),))
        self.assertIsNone(self.wrote(engine, [image(4, 0, third, second), drop(4)], engine.drop))
        self.assertIsNone(engine.group)
        self.check(engine, ONE, (("t", ((True, "b"), (1, True))),))

    def test_groups_without_changes(self):
        engine = Engine(ONE, Disk())
        self.wrote(engine, [begin(0)], engine.begin)
        self.wrote(engine, [commit(0)], engine.commit)
        self.wrote(engine, [begin(2)], engine.begin)
        self.wrote(engine, [drop(2)], engine.drop)
        engine.begin()
        engine.apply((put(1, 1),))
        engine.apply((taken(1, 1),))
        # Each page has again what it had before the group, so nothing is turned back.
        self.wrote(engine, [drop(4)], engine.drop)
        self.check(engine, ONE, (("t", ()),))

    def test_several_pages(self):
        engine = filled(Disk(), 1, 2, 3, 4)
        engine.begin()
        then = engine.pages
        self.assertSame(then, ((0, leaf(*rows(1, 2, 3, 4))),))
        count = len(engine.disk.written())
        engine.apply((put(5, "x5"),))
        changes = changes_between(then, engine.pages)
        self.assertSame([number for number, _, _ in changes], sorted(dict(engine.pages)))
        self.assertSame(len(changes), 3)
        self.assertSame(engine.disk.written()[count:], [image(3, *change) for change in changes])
        now = engine.pages
        self.wrote(engine, [*[image(3, *change) for change in changes_between(now, then)], drop(3)], engine.drop)
        self.assertSame(engine.pages, then)
        self.check(engine, ONE, (("t", tuple(rows(1, 2, 3, 4))),), 4)

    def test_flushing(self):
        engine = filled(Disk(), *range(1, 10))
        pages = dict(engine.pages)
        self.assertGreater(len(pages), 3)
        self.assertSame(engine.dirty_pages(), sorted(pages))
        marks = {record[2]: position for position, record in enumerate(engine.disk) if record[0] == "image"}
        for number in sorted(pages)[1:3]:
            piece = page(number, pages[number], marks[number])
            self.assertSame(self.wrote(engine, [piece], engine.flush, number), 1)
            self.assertSame(self.wrote(engine, [], engine.flush, number=number), 0)
        self.assertSame(self.wrote(engine, [], engine.flush, 1000), 0)
        left = [number for number in sorted(pages) if number not in sorted(pages)[1:3]]
        self.assertSame(engine.dirty_pages(), left)
        self.assertSame(self.wrote(engine, [page(one, pages[one], marks[one]) for one in left], engine.flush),
                        len(left))
        self.assertSame(engine.dirty_pages(), [])
        self.assertSame(self.wrote(engine, [], engine.flush), 0)
        self.check(engine, ONE, (("t", tuple(rows(*range(1, 10)))),), 4)

    def test_page_0_is_a_page(self):
        engine = filled(Disk(), *range(1, 10))
        content = dict(engine.pages)[0]
        marks = [position for position, record in enumerate(engine.disk) if record[:1] + record[2:3] == ("image", 0)]
        self.assertSame(self.wrote(engine, [page(0, content, marks[-1])], engine.flush, 0), 1)
        self.assertNotIn(0, engine.dirty_pages())
        self.assertGreater(len(engine.dirty_pages()), 0)

    def test_the_mark_is_that_of_the_latest_image(self):
        engine = filled(Disk(), 1)
        for number in (2, 3):
            engine.begin()
            engine.apply((put(number, 0),))
            engine.commit()
        self.assertSame(self.wrote(engine, [page(0, leaf((1, "x1"), (2, 0), (3, 0)), 7)], engine.flush), 1)
        self.assertSame(engine.dirty_pages(), [])
        engine.begin()
        engine.apply((taken(3, 0),))
        self.assertSame(engine.dirty_pages(), [0])
        self.assertSame(self.wrote(engine, [page(0, leaf((1, "x1"), (2, 0)), 10)], engine.flush), 1)
        engine.drop()
        self.assertSame(engine.dirty_pages(), [0])
        self.assertSame(self.wrote(engine, [page(0, leaf((1, "x1"), (2, 0), (3, 0)), 11)], engine.flush, 0), 1)

    def test_pages_that_are_gone(self):
        engine = filled(Disk(), 1, 2, 3, 4, 5)
        numbers = sorted(dict(engine.pages))
        self.assertSame(numbers, [0, 1, 2])
        engine.flush()
        engine.begin()
        engine.apply(tuple([taken(*row) for row in rows(1, 2, 3)]))
        engine.commit()
        self.assertSame(sorted(dict(engine.pages)), [0])
        gone = [number for number in engine.dirty_pages() if number != 0]
        self.assertSame(engine.dirty_pages(), [0, 1, 2])
        marks = {record[2]: position for position, record in enumerate(engine.disk) if record[0] == "image"}
        self.assertSame(self.wrote(engine, [page(gone[1], None, marks[gone[1]])], engine.flush, gone[1]), 1)
        self.assertSame(engine.dirty_pages(), [0, gone[0]])
        self.wrote(engine, [page(0, leaf(*rows(4, 5)), marks[0]), page(gone[0], None, marks[gone[0]])], engine.flush)
        self.check(engine, ONE, (("t", tuple(rows(4, 5))),), 4)
        self.check(Engine(ONE, engine.disk.twin(), order=4), ONE, (("t", tuple(rows(4, 5))),), 4)

    def test_sweeping(self):
        engine = filled(Disk(), 1)
        self.assertIsNone(self.wrote(engine, [cut(1)], engine.sweep))
        self.wrote(engine, [], engine.sweep)
        engine.flush()
        self.wrote(engine, [cut(3)], engine.sweep)
        self.assertSame(len(engine.disk), 0)
        self.wrote(engine, [], engine.sweep)
        engine.begin()
        self.wrote(engine, [], engine.sweep)
        engine.apply((put(2, 2),))
        engine.flush()
        self.wrote(engine, [], engine.sweep)
        engine.commit()
        self.wrote(engine, [cut(6)], engine.sweep)
        self.check(engine, ONE, (("t", ((1, "x1"), (2, 2))),))

    def test_checkpoints(self):
        engine = filled(Disk(), 1)
        content = leaf((1, "x1"))
        self.assertIsNone(self.wrote(engine, [page(0, content, 1), cut(3)], engine.checkpoint))
        self.wrote(engine, [], engine.checkpoint)
        engine.begin()
        engine.apply((put(2, 2),))
        self.wrote(engine, [page(0, leaf((1, "x1"), (2, 2)), 4)], engine.checkpoint)
        engine.drop()
        self.wrote(engine, [page(0, content, 5), cut(7)], engine.checkpoint)
        engine.begin()
        engine.commit()
        self.wrote(engine, [cut(9)], engine.checkpoint)
        self.check(engine, ONE, (("t", ((1, "x1"),)),))

    def test_answers(self):
        engine = Engine(SCHEMA, Disk())
        engine.begin()
        engine.apply(difference(SCHEMA, empty_book(SCHEMA), BOOK))
        tree = read_query("from ants as a with zoo as z where a.zoo = z.code top 1 by a.id down")
        self.assertSame(engine.answer(tree), answer(SCHEMA, BOOK, tree))
        self.assertSame(engine.answer(tree=tree), [(2, "b", 1, 6, "b", "Rome")])
        for error, attributes, text in (
            (NoTable, {"table": "q"}, "from q as q"), (NoColumn, {"label": "id"}, "from ants as a read id"),
            (Repeated, {"label": "a.id"}, "from ants as a with ants as a"),
            (Unlike, {"right": ("z.code", "z.city")}, "from ants as a minus zoo as z"),
        ):
            self.assertFails(error, attributes, engine.answer, read_query(text))
        for made in (engine.answer(tree), engine.dirty_pages()):
            spoil(made)
        self.assertSame(engine.answer(tree), [(2, "b", 1, 6, "b", "Rome")])
        self.assertSame(engine.dirty_pages(), [0])
        engine.drop()
        self.assertSame(engine.answer(tree), [])


class TestErrors(EngineCase):
    def test_busy_and_closed(self):
        engine = Engine(ONE, Disk())
        for _ in range(2):
            for delta in ((), (put(1, 1),), (taken(1, 1),), (("q", (1,), None, (1,)),)):
                self.wrote(engine, [], self.assertFails, Closed, {}, engine.apply, delta)
            self.wrote(engine, [], self.assertFails, Closed, {}, engine.commit)
            self.wrote(engine, [], self.assertFails, Closed, {}, engine.drop)
            engine.begin()
            number = engine.group
            self.wrote(engine, [], self.assertFails, Busy, {}, engine.begin)
            self.assertSame(engine.group, number)
            engine.commit()

    def test_before_stopped(self):
        """Nothing is left to write with, but the call has another fault."""
        disk = Disk()
        engine = Engine(ONE, disk)
        disk.fuel = 0
        self.assertFails(Closed, {}, engine.apply, (put(1, 1),))
        self.assertFails(Closed, {}, engine.commit)
        self.assertFails(Closed, {}, engine.drop)
        disk.fuel = 1
        engine.begin()
        self.assertFails(Busy, {}, engine.begin)
        self.assertFails(Mismatch, {"table": "t", "key": (1,)}, engine.apply, (taken(1, 1),))
        self.assertFails(NoTable, {"table": "q"}, engine.apply, (("q", (1,), None, (1,)), taken(1, 1)))
        self.assertIsNone(engine.apply(()))
        self.assertFails(Stopped, {}, engine.apply, (put(1, 1),))

    def test_deltas(self):
        engine = filled(Disk(), 1, 2)
        engine.begin()
        before = engine.pages
        for error, attributes, delta in (
            (NoTable, {"table": "q"}, (taken(7, 7), ("q", (1,), None, (1,)), ("r", (1,), None, (1,)))),
            (Mismatch, {"table": "t", "key": (1,)}, (put(0, 0), put(1, 1), taken(2, 2))),
            (Mismatch, {"table": "t", "key": (True,)}, (taken(True, "x1"),)),
            (Mismatch, {"table": "t", "key": (3,)}, (put(0, 0), turned((3, 0), (3, 1)))),
        ):
            self.wrote(engine, [], self.assertFails, error, attributes, engine.apply, delta)
            self.wrote(engine, [], self.assertFails, error, attributes, engine.apply, delta=delta)
            self.assertSame(engine.pages, before)
        self.wrote(engine, [image(3, 0, leaf(*rows(1, 2)), leaf((0, 0), *rows(1, 2)))], engine.apply, (put(0, 0),))

    def test_true_is_another_content(self):
        engine = Engine(ONE, Disk())
        engine.begin()
        engine.apply((put(1, True),))
        engine.commit()
        engine.begin()
        self.wrote(engine, [image(3, 0, leaf((1, True)), leaf((1, 1)))], engine.apply, (turned((1, True), (1, 1)),))
        self.wrote(engine, [image(3, 0, leaf((1, 1)), leaf((1, True))), drop(3)], engine.drop)
        engine.begin()
        engine.apply((turned((1, True), (1, 1)),))
        again = Engine(ONE, engine.disk.twin())
        self.assertSame(again.disk.written()[-2:], [image(7, 0, leaf((1, 1)), leaf((1, True))), drop(7)])


class TestOpening(EngineCase):
    def opened(self, disk, schema, book, wanted, order=4):
        """Opening an engine on a twin of the disk writes these pieces and gives this book."""
        twin = disk.twin()
        count = len(twin.written())
        engine = Engine(schema, twin, order=order)
        self.assertSame(twin.written()[count:], list(wanted))
        self.assertIsNone(engine.group)
        self.check(engine, schema, book, order)
        again = Engine(schema, twin, order=order)
        self.assertSame(len(twin.written()), count + len(wanted))
        self.check(again, schema, book, order)
        return engine

    def test_committed_and_dropped(self):
        engine = filled(Disk(), 1, 2)
        self.opened(engine.disk, ONE, (("t", tuple(rows(1, 2))),), [])
        engine.flush()
        self.opened(engine.disk, ONE, (("t", tuple(rows(1, 2))),), [])
        engine.sweep()
        self.opened(engine.disk, ONE, (("t", tuple(rows(1, 2))),), [])
        engine.begin()
        engine.apply((taken(1, "x1"),))
        engine.drop()
        self.opened(engine.disk, ONE, (("t", tuple(rows(1, 2))),), [])

    def test_unfinished(self):
        engine = filled(Disk(), 1, 2)
        book = (("t", tuple(rows(1, 2))),)
        old = leaf(*rows(1, 2))
        engine.begin()
        self.opened(engine.disk, ONE, book, [drop(3)])
        engine.apply((put(3, 3),))
        self.opened(engine.disk, ONE, book, [image(3, 0, leaf(*rows(1, 2), (3, 3)), old), drop(3)])
        engine.flush()
        self.opened(engine.disk, ONE, book, [image(3, 0, leaf(*rows(1, 2), (3, 3)), old), drop(3)])
        engine.apply((taken(3, 3),))
        self.opened(engine.disk, ONE, book, [drop(3)])
        engine.apply((taken(1, "x1"), taken(2, "x2")))
        self.opened(engine.disk, ONE, book, [image(3, 0, EMPTY, old), drop(3)])

    def test_the_first_group(self):
        engine = Engine(ONE, Disk())
        engine.begin()
        engine.apply((put(1, 1),))
        self.opened(engine.disk, ONE, (("t", ()),), [image(0, 0, leaf((1, 1)), EMPTY), drop(0)])

    def test_pages_that_came_and_went(self):
        engine = filled(Disk(), 1, 2, 3, 4)
        book, then = engine.read_book(), engine.pages
        engine.begin()
        engine.apply((put(5, 5),))
        wide = engine.pages
        back = changes_between(wide, then)
        self.assertSame([number for number, _, after in back if after is None], [1, 2])
        self.opened(engine.disk, ONE, book, [*[image(3, *change) for change in back], drop(3)])
        engine.flush()
        self.opened(engine.disk, ONE, book, [*[image(3, *change) for change in back], drop(3)])
        engine.commit()
        engine.checkpoint()
        engine.begin()
        engine.apply(tuple([taken(*row) for row in rows(1, 2, 3)]))
        book = (("t", (*rows(1, 2, 3, 4), (5, 5))),)
        back = changes_between(engine.pages, wide)
        self.assertSame([number for number, before, _ in back if before is None], [1, 2])
        group = engine.group
        self.opened(engine.disk, ONE, book, [*[image(group, *change) for change in back], drop(group)])

    def test_an_engine_goes_on(self):
        engine = filled(Disk(), 1, 2)
        engine.begin()
        engine.apply((put(3, 3),))
        later = Engine(ONE, engine.disk, order=4)
        self.assertSame(self.wrote(later, [begin(7)], later.begin), 7)
        later.apply((put(4, 4),))
        later.commit()
        later.checkpoint()
        self.check(later, ONE, (("t", (*rows(1, 2), (4, 4))),), 4)
        self.opened(later.disk, ONE, (("t", (*rows(1, 2), (4, 4))),), [])


class Script:
    """Drawn calls of an engine, which may stop; what each call must write is worked out from the points."""

    def __init__(self, case, seed, order):
        self.case = case
        self.draw = random.Random(seed)
        self.order = order
        self.book = self.then = empty_book(drawn.SCHEMA)
        # The committed book as it is after so many pieces.
        self.marks = [(0, self.book)]

    def run(self, engine, calls):
        for _ in range(calls):
            getattr(self, self.draw.choice(
                ("begin", "begin", "apply", "apply", "apply", "commit", "commit", "drop", "flush", "flush_one", "sweep",
                 "checkpoint")
            ))(engine)

    def checked(self, engine, wanted, call, *rest):
        result = self.case.wrote(engine, wanted, call, *rest)
        self.case.check(engine, drawn.SCHEMA, self.book, self.order)
        return result

    def begin(self, engine):
        if engine.group is None:
            self.then, self.pages = self.book, engine.pages
            number = engine.disk.end
            self.case.assertSame(self.checked(engine, [begin(number)], engine.begin), number)

    def apply(self, engine):
        if engine.group is None:
            return
        later = drawn.book(self.draw, 10)
        if self.draw.random() < 0.7:
            later = tuple([new if self.draw.random() < 0.4 else old for old, new in zip(self.book, later)])
        delta = difference(drawn.SCHEMA, self.book, later)
        twin = Shelf.loaded(drawn.SCHEMA, engine.pages, order=self.order)
        twin.apply(delta)
        changes = changes_between(engine.pages, twin.pages)
        self.book = later
        self.checked(engine, [image(engine.group, *change) for change in changes], engine.apply, delta)

    def commit(self, engine):
        if engine.group is not None:
            self.checked(engine, [commit(engine.group)], engine.commit)
            self.marks.append((len(engine.disk.written()), self.book))

    def drop(self, engine):
        if engine.group is not None:
            self.book = self.then
            changes = changes_between(engine.pages, self.pages)
            pieces = [*[image(engine.group, *change) for change in changes], drop(engine.group)]
            self.checked(engine, pieces, engine.drop)

    def due(self, engine):
        latest = {record[2]: (position, lacks) for position, record, lacks in plain_images(engine.disk.state())}
        contents = dict(engine.pages)
        return [page(one, contents.get(one), latest[one][0]) for one in sorted(latest) if latest[one][1]]

    def flush(self, engine):
        pieces = self.due(engine)
        self.case.assertSame(self.checked(engine, pieces, engine.flush), len(pieces))

    def flush_one(self, engine):
        number = self.draw.randrange(6)
        pieces = [piece for piece in self.due(engine) if piece[1] == number]
        self.case.assertSame(self.checked(engine, pieces, engine.flush, number), len(pieces))

    def sweep(self, engine):
        position = plain_sweepable(engine.disk.state())
        self.checked(engine, [cut(position)] if position > engine.disk.first else [], engine.sweep)

    def checkpoint(self, engine):
        pieces = self.due(engine)
        twin = engine.disk.twin()
        for piece in pieces:
            twin.write(piece)
        position = plain_sweepable(twin.state())
        self.checked(engine, pieces + ([cut(position)] if position > twin.first else []), engine.checkpoint)


class TestScripts(EngineCase):
    def scripted(self, seed, calls, order):
        engine = Engine(drawn.SCHEMA, Disk(), order=order)
        script = Script(self, seed, order)
        script.run(engine, calls)
        return script, engine.disk.written()

    def book_after(self, script, count):
        """What the groups that were committed in the first count pieces have made of the empty book."""
        return [book for mark, book in script.marks if mark <= count][-1]

    def test_without_stops(self):
        for seed in range(25):
            self.scripted(seed, 40, (4, 5, 8, 16)[seed % 4])

    def test_a_stop_after_each_number_of_pieces(self):
        kinds = {"image": 0, "flushed": 0}
        for seed in range(6):
            order = (4, 5, 6)[seed % 3]
            script, pieces = self.scripted(100 + seed, 45, order)
            for count in range(len(pieces) + 1):
                disk = Disk()
                for piece in pieces[:count]:
                    disk.write(piece)
                wanted = opening_pieces(disk.state())
                kinds["image"] += len(wanted) > 1
                kinds["flushed"] += len(wanted) > 1 and pieces[count - 1][0] == "page"
                book = self.book_after(script, count)
                engine = Engine(drawn.SCHEMA, disk, order=order)
                self.assertSame(disk.written(), [*pieces[:count], *wanted])
                self.check(engine, drawn.SCHEMA, book, order)
        self.assertGreater(min(kinds.values()), 10)

    def test_stops_while_an_engine_is_opened(self):
        for seed in range(4):
            script, pieces = self.scripted(100 + seed, 45, 4)
            for count in range(0, len(pieces) + 1, 2):
                disk = Disk()
                for piece in pieces[:count]:
                    disk.write(piece)
                wanted = opening_pieces(disk.state())
                for fuel in range(len(wanted)):
                    stopped = disk.twin(fuel=fuel)
                    self.assertFails(Stopped, {}, Engine, drawn.SCHEMA, stopped, order=4)
                    self.assertSame(stopped.written(), [*pieces[:count], *wanted[:fuel]])
                    self.recovered(stopped.twin(), script, count)
                # Several stops one after another, each after one more piece.
                for at in range(len(wanted)):
                    disk.fuel = 0 if at == 0 else 1
                    self.assertFails(Stopped, {}, Engine, drawn.SCHEMA, disk, order=4)
                disk.fuel = None
                self.recovered(disk, script, count)
                self.assertSame(disk.written(), [*pieces[:count], *wanted])

    def recovered(self, disk, script, count):
        self.check(Engine(drawn.SCHEMA, disk, order=4), drawn.SCHEMA, self.book_after(script, count), 4)

    def test_stops_by_fuel(self):
        """An engine that stops has written exactly the first pieces of what it would have written."""
        script, pieces = self.scripted(7, 40, 4)
        for fuel in range(0, len(pieces), 3):
            disk = Disk(fuel=fuel)
            self.assertFails(Stopped, {}, Quiet(self, 7, 4).run, Engine(drawn.SCHEMA, disk, order=4), 40)
            self.assertSame(disk.written(), pieces[:fuel])
            disk.fuel = None
            self.recovered(disk, script, fuel)

    def test_scripts_that_go_on_after_stops(self):
        draw = random.Random(5)
        for seed in range(10):
            disk = Disk()
            script = Script(self, seed, 4)
            for _ in range(4):
                engine = Engine(drawn.SCHEMA, disk, order=4)
                script.book = script.marks[-1][1]
                self.check(engine, drawn.SCHEMA, script.book, 4)
                script.run(engine, draw.randrange(12))
                self.assertTrue(is_ahead(disk.written()))


class Quiet(Script):
    """The same calls, without looking at the pieces, since the engine may stop within them."""

    def checked(self, engine, wanted, call, *rest):
        return call(*rest)


def opening_pieces(state):
    """Point 70: what opening an engine on a disk with this state writes."""
    contents = {number: content for number, content, _ in state[0]}
    for _, record, lacks in plain_images(state):
        if lacks:
            contents[record[2]] = record[4]
    _, groups, _, undo = plain_paper(state)
    pieces = []
    for group in groups:
        for number, content in undo:
            if exact(contents.get(number)) != exact(content):
                pieces.append(image(group, number, contents.get(number), content))
        pieces.append(drop(group))
    return pieces


class TestReferences(EngineCase):
    def test_a_book_with_references(self):
        engine = Engine(SCHEMA, Disk())
        delta = difference(SCHEMA, empty_book(SCHEMA), BOOK)
        engine.begin()
        engine.apply(delta)
        engine.commit()
        self.check(engine, SCHEMA, BOOK)
        self.assertSame(make_book(SCHEMA, BOOK), apply_delta(SCHEMA, empty_book(SCHEMA), delta))
        engine.begin()
        engine.apply(inverse(delta))
        self.check(engine, SCHEMA, empty_book(SCHEMA))
        self.check(Engine(SCHEMA, engine.disk.twin()), SCHEMA, BOOK)
        engine.commit()
        self.check(Engine(SCHEMA, engine.disk.twin()), SCHEMA, empty_book(SCHEMA))


if __name__ == "__main__":
    unittest.main()
