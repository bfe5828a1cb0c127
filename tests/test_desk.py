"""Points 89 to 92: a desk, its lines for views, its disk, stops, meetings and recovery."""

import unittest

from storedesk.books import empty_book
from storedesk.deltas import difference, inverse
from storedesk.desk import Desk
from storedesk.disks import Disk, is_ahead
from storedesk.errors import Stopped
from storedesk.pages import entries_of
from storedesk.recovery import Engine
from storedesk.shelves import Shelf
from tests.disked import begin, commit, cut, drop, image, page
from tests.plainly import TOWN, TOWN_BOOK
from tests.support import StoreCase

KV = (("t", (("k", "any"), ("x", "any")), ("k",), (), ()), ("s", (("k", "any"),), ("k",), (), ()))
KV_BOOK = (("t", ((1, "one"), (2, "two"))), ("s", ()))
PAIR = ("ann", "bob")
TRIO = ("ann", "bob", "cy")


def put(table, *row):
    return (table, row[:1], None, row)


def taken(table, *row):
    return (table, row[:1], row, None)


def turned(before, after):
    return ("t", before[:1], before, after)


def refused(name):
    return ("refused", name)


def leaf(book, schema=KV):
    """The content of the one page of a small book."""
    (_, content), = Shelf(schema, book).pages
    return content


def named(name, names=PAIR, schema=KV, book=KV_BOOK, fuel=None):
    return Desk(schema, book, Disk(fuel=fuel), name=name, names=names)


class DeskCase(StoreCase):
    def lines(self, desk, *pairs):
        for line, wanted in pairs:
            self.assertSame(desk.run("ann", line), wanted, line)

    def wrote(self, desk, wanted, call, *rest):
        """The call writes exactly these pieces; return what it returns."""
        count = len(desk.disk.written())
        result = call(*rest)
        self.assertSame(desk.disk.written()[count:], list(wanted))
        return result

    def check_disk(self, desk, schema=KV):
        """The disk recovers exactly the committed book, and its pieces keep ahead."""
        self.assertSame(Engine(schema, desk.disk.twin()).read_book(), desk.book)
        self.assertTrue(is_ahead(desk.disk.written()))


class TestViews(DeskCase):
    def test_keeping(self):
        desk = Desk(KV, KV_BOOK, Disk())
        self.assertSame(desk.views, ())
        self.lines(
            desk, ("keep tops as from t as t top 2 by t.x down", ("kept", "tops")),
            ("keep a_1 as from s as s", ("kept", "a_1")),
            ("show tops", ("rows", ("t.k", "t.x"), ((1, "one"), (2, "two")))), ("show a_1", ("rows", ("s.k",), ())),
            ("put s (1), (2)", ("changed", 2)), ("show a_1", ("rows", ("s.k",), ((1,), (2,)))),
            ("keep tops as from s as s", refused("NameTaken")), ("forget a_1", ("forgotten", "a_1")),
            ("show a_1", refused("NoView")), ("forget a_1", refused("NoView")),
            ("keep a_1 as from s as s read s.k as k", ("kept", "a_1")), ("show a_1", ("rows", ("k",), ((1,), (2,)))),
            ("undo", ("undone", 2)), ("show a_1", ("rows", ("k",), ())),
        )
        self.assertSame(desk.views, ("a_1", "tops"))

    def test_forms(self):
        """What is not exactly of the form is a line of a session, and there it is no text of the grammar."""
        desk = Desk(KV, KV_BOOK, Disk())
        self.lines(desk, ("keep v as from s as s", ("kept", "v")))
        for line in (
            "keep", "keep w", "keep w ", "keep w as", "keep  w as from s as s", "keep w  as from s as s",
            "keep w as\nfrom s as s", "keep w\nas from s as s", " keep w as from s as s", "keep top as from s as s",
            "keep W as from s as s", "keep w.x as from s as s", "keep abcdefghijklm as from s as s",
            "keep  as from s as s",
            "keep w is from s as s", "Keep w as from s as s", "keep w AS from s as s", "show", "show ", "show  v",
            " show v",
            "show v ", "show v\n", "show v v", "show v.v", "show top", "show V", "forget", "forget  v", "forget v ",
            "forget v as", "forget none", "save ", " save", "save v", "saves", "Save",
        ):
            self.lines(desk, (line, refused("BadSyntax")))
        for line in ("keep w as ", "keep w as from", "keep w as from s as s where", "keep w as take s", "keep v as ",
                     "keep w as from s as s; from s as s", "keep v as from nope as", "keep w as always"):
            self.lines(desk, (line, refused("BadSyntax")))
        self.assertSame(desk.views, ("v",))
        self.lines(
            desk, ("keep w as  from s as s", ("kept", "w")), ("keep x as \n from s as s ", ("kept", "x")),
            ("keep abcdefghijkl as from s as s", ("kept", "abcdefghijkl")),
            ("keep y as from(from s as s)", ("kept", "y")),
            ("keep keep as from s as s", ("kept", "keep")), ("keep show as from s as s", ("kept", "show")),
            ("show show", ("rows", ("s.k",), ())), ("forget keep", ("forgotten", "keep")),
        )

    def test_errors(self):
        desk = Desk(KV, KV_BOOK, Disk())
        self.lines(
            desk, ("keep v as from nope as n where x = 1", refused("NoTable")),
            ("keep v as from s as s read k", refused("NoColumn")),
            ("keep v as from s as s with s as s", refused("Repeated")),
            ("keep v as from s as s union t as t", refused("Unlike")),
            ("show v", refused("NoView")), ("keep v as from s as s", ("kept", "v")),
            # The syntax comes first, then the name, then the faults of the tree.
            ("keep v as from nope as", refused("BadSyntax")), ("keep v as from nope as n", refused("NameTaken")),
        )
        self.assertSame((desk.views, desk.book, desk.history), (("v",), KV_BOOK, ()))

    def test_views_are_common_and_over_the_committed_book(self):
        desk = Desk(KV, KV_BOOK, Disk())
        self.lines(
            desk, ("begin", ("begun",)), ("put s (1)", ("changed", 1)), ("keep v as from s as s", ("kept", "v")),
            ("show v", ("rows", ("s.k",), ())), ("from s as s", ("rows", ("s.k",), ((1,),))),
        )
        self.assertSame(desk.run("bob", "show v"), ("rows", ("s.k",), ()))
        self.assertSame(desk.run("bob", "put s (2)"), ("changed", 1))
        self.lines(desk, ("show v", ("rows", ("s.k",), ((2,),))), ("from s as s", ("rows", ("s.k",), ((1,),))))
        self.lines(desk, ("drop", ("dropped",)), ("show v", ("rows", ("s.k",), ((2,),))))
        self.assertSame(desk.run("bob", "forget v"), ("forgotten", "v"))
        self.lines(desk, ("show v", refused("NoView")))

    def test_nothing_is_read(self):
        desk = Desk(KV, KV_BOOK, Disk())
        self.lines(
            desk, ("begin", ("begun",)), ("keep v as from t as t", ("kept", "v")),
            ("show v", ("rows", ("t.k", "t.x"), KV_BOOK[0][1])),
            ("save", ("saved",)), ("forget v", ("forgotten", "v")), ("put s (1)", ("changed", 1)),
            ("commit", ("committed", 0)),
        )
        self.assertSame(desk.history, ((0, (("s", (1,)),), (put("s", 1),)),))


class TestDisk(DeskCase):
    def test_creation(self):
        for book in (KV_BOOK, empty_book(KV)):
            disk = Disk()
            desk = Desk(KV, book, disk)
            self.assertIs(desk.disk, disk)
            images = [image(0, 0, ("leaf", ()), leaf(book))] if book == KV_BOOK else []
            self.assertSame(disk.written(), [begin(0), *images, commit(0)])
            self.assertSame((desk.book, desk.history, desk.entries, desk.views), (book, (), (), ()))
            self.assertSame((desk.changes, desk.clashes, desk.vector, len(desk), list(desk)), ((), (), (), 0, []))
            self.check_disk(desk)
        desk = Desk(order=4, names=PAIR, name="bob", disk=Disk(), book=TOWN_BOOK, schema=TOWN)
        self.assertSame(Engine(TOWN, desk.disk, order=4).read_book(), TOWN_BOOK)

    def test_a_book_of_several_pages(self):
        book = (("t", tuple([(at, at) for at in range(20)])), ("s", ()))
        desk = Desk(KV, book, Disk(), order=4)
        self.assertGreater(len(desk.disk.written()), 6)
        kinds = [piece[1][0] for piece in desk.disk.written()]
        self.assertSame(kinds, ["begin", *["image"] * (len(kinds) - 2), "commit"])
        self.assertSame(Engine(KV, desk.disk.twin(), order=4).read_book(), book)
        self.lines(desk, ("save", ("saved",)))
        self.assertSame(entries_of(Engine(KV, desk.disk.twin(), order=4).pages), entries_of(Shelf(KV, book).pages))

    def test_each_kind_of_line(self):
        desk = Desk(KV, KV_BOOK, Disk())
        first, second = (KV_BOOK[0], ("s", ((1,),))), (KV_BOOK[0], ("s", ((1,), (2,), (3,))))
        group = [begin(3), image(3, 0, leaf(KV_BOOK), leaf(first)), commit(3)]
        self.assertSame(self.wrote(desk, group, desk.run, "ann", "put s (1)"), ("changed", 1))
        for line in ("from s as s", "take s where k = 9", "oops", "begin", "put s (2)", "keep v as from s as s",
                     "show v",
                     "forget v", "undo", "from t as t", "put s (3)"):
            self.wrote(desk, [], desk.run, "ann", line)
        group = [begin(6), image(6, 0, leaf(first), leaf(second)), commit(6)]
        self.assertSame(self.wrote(desk, group, desk.run, "ann", "commit"), ("committed", 2))
        group = [begin(9), image(9, 0, leaf(second), leaf(first)), commit(9)]
        self.assertSame(self.wrote(desk, group, desk.run, "ann", "undo"), ("undone", 2))
        for line in ("begin", "commit", "begin", "put s (7)", "drop", "take s where never"):
            self.wrote(desk, [], desk.run, "ann", line)
        self.assertSame(self.wrote(desk, [page(0, leaf(first), 10), cut(12)], desk.run, "ann", "save"), ("saved",))
        self.wrote(desk, [], desk.run, "ann", "save")
        group = [begin(12), image(12, 0, leaf(first), leaf(KV_BOOK)), commit(12)]
        self.assertSame(self.wrote(desk, group, desk.run, "ann", "undo"), ("undone", 1))
        self.check_disk(desk)

    def test_a_refused_commit_writes_nothing(self):
        desk = Desk(KV, KV_BOOK, Disk())
        for session, line in (("ann", "begin"), ("bob", "begin"), ("ann", "set t x to 5"), ("bob", "set t x to 6"),
                              ("ann", "commit")):
            desk.run(session, line)
        self.assertSame(self.wrote(desk, [], desk.run, "bob", "commit"), refused("NotSerial"))
        self.check_disk(desk)

    def test_changes_of_the_copy(self):
        desk = Desk(KV, KV_BOOK, Disk(), name="bob", names=PAIR)
        for line in ("put s (1)", "take s where k = 9", "begin", "put s (2)", "set t x to 0 where k = 1", "commit",
                     "undo", "from s as s"):
            desk.run("eve", line)
        both = (put("s", 2), turned((1, "one"), (1, 0)))
        self.assertSame(desk.changes, (("bob", 1, 1, (put("s", 1),)), ("bob", 2, 2, both),
                                       ("bob", 3, 3, inverse(both))))
        self.assertSame((desk.vector, desk.clashes), ((("bob", 3),), ()))
        self.assertSame(len(desk.history), 4)

    def test_entries(self):
        desk = Desk(KV, KV_BOOK, Disk())
        wanted = []
        for session, line in (("ann", "begin"), ("bob", "keep v as from s as s"), ("ann", "show v"), ("ann", "show w"),
                              ("bob", "save"),
                              ("bob", "forget v"), ("ann", "oops"), ("ann", "commit"), ("cy", "keep v as ")):
            wanted.append((session, line, desk.run(line=line, session=session)))
            self.assertSame((desk.entries, len(desk), list(desk)), (tuple(wanted), len(wanted), wanted))


class TestStops(DeskCase):
    script = ("put s (1), (2), (3)", "keep v as from s as s", "save", "begin", "put t (5, 5)", "take s where k = 1",
              "save", "commit",
              "from t as t", "undo", "save", "put t (7, 7)", "save")

    def books(self, order):
        """The number of pieces and the committed book after the creation and after each line, without a stop."""
        desk = Desk(KV, KV_BOOK, Disk(), order=order)
        found = [(len(desk.disk.written()), desk.book)]
        for line in self.script:
            desk.run("ann", line)
            found.append((len(desk.disk.written()), desk.book))
        return found, desk.entries

    def test_at_each_number_of_pieces(self):
        for order in (4, 8):
            found, entries = self.books(order)
            stops = 0
            for fuel in range(found[-1][0] + 2):
                disk = Disk(fuel=fuel)
                if fuel < found[0][0]:
                    self.assertFails(Stopped, {}, Desk, KV, KV_BOOK, disk, order=order)
                    disk.fuel = None
                    self.assertSame(Desk.recovered(KV, disk, order=order).book, empty_book(KV))
                    continue
                desk = Desk(KV, KV_BOOK, disk, order=order)
                for at, line in enumerate(self.script):
                    if found[at + 1][0] > fuel:
                        stops += 1
                        self.stopped(desk, line, entries[:at], found[at][1], order)
                        break
                    self.assertSame(desk.run("ann", line), entries[at][2])
                else:
                    self.assertSame(desk.entries, entries)
                    self.assertSame(disk.fuel, fuel - found[-1][0])
            self.assertGreater(stops, 15)

    def stopped(self, desk, line, entries, book, order):
        """The line stops the desk; the disk recovers the book that was committed before it."""
        disk = desk.disk
        self.assertFails(Stopped, {}, desk.run, "ann", line)
        self.assertSame(disk.fuel, 0)
        count = len(disk.written())
        for fuel in (0, 9, None):
            disk.fuel = fuel
            for other in (line, "save", "from s as s", "oops", "begin", "", "show v"):
                self.assertFails(Stopped, {}, desk.run, "ann", other)
                self.assertFails(Stopped, {}, desk.run, line=other, session="bob")
            fresh = Desk(KV, KV_BOOK, Disk(), name="x", names=("desk", "x"))
            self.assertFails(Stopped, {}, desk.meet, fresh)
            self.assertFails(Stopped, {}, fresh.meet, other=desk)
            self.assertSame(fresh.run("ann", "put s (9)"), ("changed", 1))
        self.assertSame(len(disk.written()), count)
        self.assertSame((desk.entries, len(desk), list(desk)), (entries, len(entries), list(entries)))
        self.assertIs(desk.disk, disk)
        self.assertSame(Engine(KV, disk.twin(), order=order).read_book(), book)
        again = Desk.recovered(KV, disk, order=order)
        self.assertSame(again.book, book)
        self.assertSame(again.run("ann", "put s (9)"), ("changed", 1))

    def test_without_fuel_but_with_nothing_to_write(self):
        disk = Disk()
        desk = Desk(KV, KV_BOOK, disk)
        disk.fuel = 0
        self.lines(
            desk, ("from s as s", ("rows", ("s.k",), ())), ("begin", ("begun",)), ("put s (1)", ("changed", 1)),
            ("drop", ("dropped",)),
            ("take s where k = 1", ("changed", 0)), ("keep v as from s as s", ("kept", "v")),
            ("show v", ("rows", ("s.k",), ())),
            ("oops", refused("BadSyntax")), ("undo", refused("Closed")),
        )
        self.assertFails(Stopped, {}, desk.run, "ann", "put s (1)")
        self.assertSame(len(desk), 9)
        disk.fuel = None
        self.assertFails(Stopped, {}, desk.run, "ann", "from s as s")

    def test_fuel_that_is_assigned_in_time(self):
        disk = Disk(fuel=3)
        desk = Desk(KV, KV_BOOK, disk)
        disk.fuel = 3
        self.lines(desk, ("put s (1)", ("changed", 1)))
        disk.fuel = 3
        self.lines(desk, ("put s (2)", ("changed", 1)))
        self.assertSame(disk.fuel, 0)


class TestMeeting(DeskCase):
    def test_two_desks(self):
        ann, bob = named("ann"), named("bob")
        ann.run("x", "keep v as from s as s")
        bob.run("y", "keep w as from t as t")
        ann.run("x", "put s (1)")
        bob.run("y", "set t x to 0 where k = 1")
        bob.run("y", "put s (2)")
        count = [len(ann.disk.written()), len(bob.disk.written())]
        self.assertSame(ann.meet(bob), (2, 1))
        book = (("t", ((1, 0), (2, "two"))), ("s", ((1,), (2,))))
        for desk in (ann, bob):
            self.assertSame(desk.book, book)
            self.assertSame(desk.changes, ann.changes)
            self.assertSame((desk.vector, desk.clashes), ((("ann", 1), ("bob", 2)), ()))
            self.check_disk(desk)
        self.assertSame(ann.history, (
            (0, (("s", (1,)),), (put("s", 1),)),
            (1, (("s", (2,)), ("t", (1,))), (put("s", 2), turned((1, "one"), (1, 0)))),
        ))
        self.assertSame(bob.history[2], (2, (("s", (1,)),), (put("s", 1),)))
        self.assertSame(ann.run("x", "show v"), ("rows", ("s.k",), ((1,), (2,))))
        self.assertSame(bob.run("y", "show w"), ("rows", ("t.k", "t.x"), ((1, 0), (2, "two"))))
        # One group in each, and no entry.
        for desk, start in zip((ann, bob), count):
            kinds = [piece[1][0] for piece in desk.disk.written()[start:]]
            self.assertSame(kinds, ["begin", "image", "commit"])
        self.assertSame((len(ann), len(bob)), (3, 4))
        self.assertSame(bob.meet(other=ann), (0, 0))
        self.assertSame((len(ann.history), len(bob.history)), (2, 3))
        # A merged delta is no change of the copy, and no undo takes it.
        self.assertSame(len(ann.changes), 3)
        self.assertSame(ann.run("x", "undo"), ("undone", 1))
        self.assertSame(ann.run("x", "undo"), refused("Closed"))
        self.assertSame(ann.changes[-1], ("ann", 2, 3, (taken("s", 1),)))

    def test_nothing_new(self):
        ann, bob = named("ann"), named("bob")
        ann.run("x", "put s (1)")
        self.assertSame(bob.meet(ann), (1, 0))
        self.assertSame((len(ann.history), len(bob.history)), (1, 1))
        self.wrote(ann, [], bob.meet, ann)
        self.wrote(bob, [], ann.meet, bob)
        bob.run("y", "take s where k = 5")
        self.assertSame(ann.meet(bob), (0, 0))

    def test_clashes(self):
        ann, bob = named("ann"), named("bob")
        ann.run("x", "set t x to 5 where k = 1")
        bob.run("y", "keep v as from t as t where t.k = 1 read t.x")
        bob.run("y", "set t x to 6 where k = 1")
        bob.run("y", "put s (1)")
        self.assertSame(bob.meet(ann), (1, 2))
        clash = (("bob", 1, "Mismatch", "t", (1,)),)
        self.assertSame((ann.clashes, bob.clashes), (clash, clash))
        self.assertSame((ann.book, bob.book), (((("t", ((1, 5), (2, "two"))), ("s", ((1,),)))),) * 2)
        self.assertSame(bob.history[2][2], (turned((1, 6), (1, 5)),))
        self.assertSame(bob.run("y", "show v"), ("rows", ("t.x",), ((5,),)))
        self.assertSame(bob.run("y", "undo"), ("undone", 1))
        self.assertSame(bob.run("y", "undo"), refused("Mismatch"))
        self.check_disk(ann)
        self.check_disk(bob)

    def test_three_desks(self):
        desks = [named(name, TRIO, TOWN, TOWN_BOOK) for name in TRIO]
        ann, bob, cy = desks
        ann.run("x", "take person where id = 3")
        bob.run("x", "put person (4, none, 3)")
        cy.run("x", "put city (5, 5)")
        self.assertSame(cy.meet(bob), (1, 1))
        self.assertSame(rows(cy, "person")[-1], (4, None, 3))
        self.assertSame(ann.meet(cy), (2, 1))
        # All have the clock 1, so ann's change stands first, and bob's no longer has its boss.
        clash = (("bob", 1, "Dangling", "person", (4,)),)
        self.assertSame((ann.clashes, cy.clashes), (clash, clash))
        self.assertSame((rows(cy, "person"), rows(ann, "person")), ([(1, "a", None), (2, True, 1)],) * 2)
        self.assertSame(bob.meet(ann), (1, 0))
        for desk in desks:
            self.assertSame((desk.book, desk.changes, desk.clashes, desk.vector),
                            (ann.book, ann.changes, clash, ann.vector))
            self.assertSame(Engine(TOWN, desk.disk.twin()).read_book(), ann.book)
            self.assertTrue(is_ahead(desk.disk.written()))

    def test_transactions_go_on(self):
        ann, bob = named("ann"), named("bob")
        for session, line in (("x", "begin"), ("x", "set t x to 7 where k = 1"), ("y", "begin"), ("y", "put s (7)")):
            ann.run(session, line)
        bob.run("z", "set t x to 0 where k = 1")
        self.assertSame(ann.meet(bob), (1, 0))
        self.assertSame(ann.run("x", "from t as t where t.k = 1 read t.x"), ("rows", ("t.x",), ((7,),)))
        self.assertSame(ann.run("x", "commit"), refused("NotSerial"))
        self.assertSame(ann.run("x", "commit"), refused("Closed"))
        self.assertSame(ann.run("y", "commit"), ("committed", 1))
        self.assertSame(ann.book, (("t", ((1, 0), (2, "two"))), ("s", ((7,),))))
        self.check_disk(ann)

    def test_stops(self):
        """At each piece: the first three are written in the desk that is called, then three in the other one."""
        for called in (0, 1):
            for at, fuel in ((0, 0), (0, 1), (0, 2), (1, 0), (1, 1), (1, 2)):
                desks = [named("ann"), named("bob")]
                desks[0].run("x", "put s (1)")
                desks[1].run("x", "put s (2)")
                before = [desk.book for desk in desks]
                first, second = desks[called], desks[1 - called]
                (first, second)[at].disk.fuel = fuel
                counts = [len(desk.disk.written()) for desk in (first, second)]
                self.assertFails(Stopped, {}, first.meet, second)
                wrote = [len(desk.disk.written()) - count for desk, count in zip((first, second), counts)]
                self.assertSame(wrote, [fuel, 0] if at == 0 else [3, fuel])
                merged = (KV_BOOK[0], ("s", ((1,), (2,))))
                books = [merged if at == 1 else before[called], before[1 - called]]
                for desk, book in zip((first, second), books):
                    self.stopped(desk, book)

    def stopped(self, desk, book):
        desk.disk.fuel = None
        for line in ("from s as s", "save", "oops"):
            self.assertFails(Stopped, {}, desk.run, "x", line)
        fresh = named("cy", TRIO)
        self.assertFails(Stopped, {}, desk.meet, fresh)
        self.assertFails(Stopped, {}, fresh.meet, desk)
        self.assertSame(len(desk), 1)
        self.assertSame(Desk.recovered(KV, desk.disk).book, book)

    def test_with_a_stopped_one(self):
        for called in (0, 1):
            desks = [named("ann"), named("bob")]
            good, bad = desks
            good.run("x", "put s (1)")
            bad.run("x", "put s (2)")
            bad.disk.fuel = 1
            self.assertFails(Stopped, {}, bad.run, "x", "put s (3)")
            bad.disk.fuel = None
            before = (good.book, good.history, good.changes, good.entries, good.disk.written(), bad.disk.written())
            self.assertFails(Stopped, {}, desks[called].meet, desks[1 - called])
            self.assertSame((good.book, good.history, good.changes, good.entries, good.disk.written(),
                             bad.disk.written()), before)
            # The good one goes on, also with others.
            self.assertSame(good.run("x", "put s (4)"), ("changed", 1))
            self.assertSame(good.meet(named("bob")), (0, 2))

    def test_no_fuel_but_nothing_to_write(self):
        ann, bob = named("ann"), named("bob")
        bob.run("x", "put s (1)")
        bob.disk.fuel = 0
        self.assertSame(ann.meet(bob), (1, 0))
        self.assertSame(bob.run("x", "from s as s"), ("rows", ("s.k",), ((1,),)))


def rows(desk, table):
    return list(dict(desk.book)[table])


class TestRecovered(DeskCase):
    def test_a_new_desk(self):
        old = Desk(KV, KV_BOOK, Disk())
        for line in ("put s (1)", "keep v as from s as s", "save", "begin", "put s (2)"):
            old.run("ann", line)
        disk = old.disk
        count = len(disk.written())
        desk = Desk.recovered(KV, disk)
        self.assertIs(desk.disk, disk)
        self.assertSame(len(disk.written()), count)
        self.assertSame(desk.book, (KV_BOOK[0], ("s", ((1,),))))
        self.assertSame((desk.entries, desk.history, desk.views, desk.changes, desk.clashes, desk.vector),
                        ((), (), (), (), (), ()))
        self.assertSame((len(desk), list(desk)), (0, []))
        self.lines(desk, ("commit", refused("Closed")), ("undo", refused("Closed")), ("show v", refused("NoView")),
                   ("put s (5)", ("changed", 1)), ("save", ("saved",)), ("undo", ("undone", 1)),
                   ("undo", refused("Closed")))
        self.assertSame(desk.changes[0], ("desk", 1, 1, (put("s", 5),)))
        self.check_disk(desk)

    def test_an_empty_disk(self):
        disk = Disk(fuel=0)
        desk = Desk.recovered(KV, disk)
        self.assertSame((desk.book, disk.written()), (empty_book(KV), []))
        disk.fuel = None
        self.lines(desk, ("put s (5)", ("changed", 1)))
        self.check_disk(desk)

    def test_an_unfinished_group(self):
        old = Desk(KV, KV_BOOK, Disk())
        old.disk.fuel = 2
        self.assertFails(Stopped, {}, old.run, "ann", "put s (1)")
        changed = (KV_BOOK[0], ("s", ((1,),)))
        for fuel in (0, 1):
            twin = old.disk.twin(fuel=fuel)
            self.assertFails(Stopped, {}, Desk.recovered, KV, twin)
        twin = old.disk.twin(fuel=2)
        desk = Desk.recovered(disk=twin, schema=KV)
        self.assertSame(twin.written()[-2:], [image(3, 0, leaf(changed), leaf(KV_BOOK)), drop(3)])
        self.assertSame(desk.book, KV_BOOK)
        twin.fuel = None
        self.lines(desk, ("put s (1)", ("changed", 1)))
        self.check_disk(desk)

    def test_meetings(self):
        disks = []
        for name in PAIR:
            desk = named(name)
            desk.run("x", "put s (1)")
            disks.append(desk.disk)
        ann, bob = [Desk.recovered(KV, disk, name=name, names=PAIR) for name, disk in zip(PAIR, disks)]
        base = (KV_BOOK[0], ("s", ((1,),)))
        self.assertSame((ann.book, bob.book), (base, base))
        ann.run("x", "put s (2)")
        bob.run("x", "put s (2)")
        self.assertSame(ann.meet(bob), (1, 1))
        self.assertSame(bob.clashes, (("bob", 1, "Mismatch", "s", (2,)),))
        self.assertSame((ann.book, bob.book), ((KV_BOOK[0], ("s", ((1,), (2,)))),) * 2)
        # The name and the names are those that were passed; with another book it is another base.
        self.assertSame(ann.changes[0][0], "ann")
        fresh = Desk(KV, base, Disk(), name="bob", names=PAIR)
        self.assertSame(fresh.meet(ann), (2, 0))
        self.assertSame(fresh.book, ann.book)

    def test_other_orders(self):
        book = (("t", tuple([(at, at) for at in range(20)])), ("s", ()))
        desk = Desk(KV, book, Disk(), order=4)
        desk.run("x", "take t where k < 15")
        desk.run("x", "save")
        again = Desk.recovered(KV, desk.disk, order=4)
        self.assertSame(again.book, desk.book)
        again.run("x", "put s (1), (2), (3), (4), (5)")
        self.assertSame(Engine(KV, again.disk.twin(), order=4).read_book(), again.book)
        self.assertSame(again.changes[0][3], difference(KV, desk.book, again.book))


if __name__ == "__main__":
    unittest.main()
