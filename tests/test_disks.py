"""Points 64 to 69 and 73: disks, recovery papers, recovered pages, sweepable positions, and what keeps ahead."""

import random
import unittest

from storedesk.disks import Disk, is_ahead, recovered_pages, recovery_paper, sweepable
from storedesk.errors import Stopped
from tests.disked import (
    NO_PAGES, begin, commit, cut, drop, image, leaf, page, plain_is_ahead, plain_pages, plain_paper, plain_state,
    plain_sweepable, random_pieces, state_of, written,
)
from tests.support import StoreCase, spoil


class TestDisk(StoreCase):
    def check(self, disk, pieces, fuel):
        pages, first, log = plain_state(pieces)
        self.assertSame(disk.state(), (pages, first, log))
        self.assertSame(disk.written(), list(pieces))
        self.assertSame(len(disk), len(log))
        self.assertSame(list(disk), list(log))
        self.assertSame([record for record in disk], list(log))
        self.assertSame((disk.first, disk.end, disk.fuel), (first, first + len(log), fuel))

    def test_an_empty_disk(self):
        self.check(Disk(), [], None)
        self.check(Disk(fuel=0), [], 0)
        self.check(Disk(fuel=7), [], 7)
        self.assertSame(Disk().state(), ((), 0, ()))

    def test_records(self):
        disk = Disk()
        self.assertIsNone(disk.write(begin(0)))
        self.check(disk, [begin(0)], None)
        self.assertIsNone(disk.write(piece=image(0, 0, leaf(), leaf(1))))
        self.check(disk, [begin(0), image(0, 0, leaf(), leaf(1))], None)
        self.assertSame(disk.state(), ((), 0, (("begin", 0), ("image", 0, 0, leaf(), leaf(1)))))
        self.assertSame((disk.first, disk.end), (0, 2))

    def test_pages(self):
        disk = written(page(3, leaf(1), 7), page(0, None, 0), page(3, leaf(True), 5), page(1, leaf(), 1000000))
        self.assertSame(disk.state(), (((0, None, 0), (1, leaf(), 1000000), (3, leaf(True), 5)), 0, ()))
        self.assertSame((len(disk), disk.first, disk.end, len(disk.written())), (0, 0, 0, 4))

    def test_cuts(self):
        records = [begin(0), commit(0), begin(2), drop(2), begin(4)]
        for position in range(6):
            pieces = [*records, cut(position)]
            self.check(written(*pieces), pieces, None)
            self.assertSame(written(*pieces).first, position)
            pieces = [*records, cut(position), page(1, leaf(), 0), commit(4), begin(6), cut(6), cut(6)]
            self.check(written(*pieces), pieces, None)
        disk = written(*records, cut(5))
        self.assertSame((disk.state(), disk.first, disk.end), (((), 5, ()), 5, 5))
        disk.write(commit(4))
        self.assertSame((disk.state(), disk.first, disk.end), (((), 5, (("commit", 4),)), 5, 6))
        self.assertSame(written(cut(0)).written(), [cut(0)])
        self.assertSame(written(cut(0)).state(), ((), 0, ()))

    def test_fuel(self):
        disk = Disk(fuel=3)
        pieces = [begin(0), page(0, leaf(), 0), cut(0)]
        for at, piece in enumerate(pieces):
            self.assertSame(disk.fuel, 3 - at)
            disk.write(piece)
        for piece in (begin(0), page(0, leaf(1), 0), cut(1)):
            self.assertFails(Stopped, {}, disk.write, piece)
            self.assertFails(Stopped, {}, disk.write, piece=piece)
            self.check(disk, pieces, 0)
        disk.fuel = 1
        disk.write(commit(0))
        self.assertFails(Stopped, {}, disk.write, begin(2))
        self.check(disk, [*pieces, commit(0)], 0)
        disk.fuel = None
        for _ in range(50):
            disk.write(page(5, leaf(), 0))
        self.assertIsNone(disk.fuel)
        disk.fuel = 0
        self.assertFails(Stopped, {}, disk.write, cut(0))
        self.assertSame(len(disk.written()), 54)
        self.assertFails(Stopped, {}, Disk(fuel=0).write, begin(0))

    def test_twins(self):
        pieces = [begin(0), image(0, 0, leaf(), leaf(1)), commit(0), page(0, leaf(1), 1), cut(3)]
        disk = Disk(fuel=9)
        for piece in pieces:
            disk.write(piece)
        twin, poor = disk.twin(), disk.twin(fuel=1)
        self.check(disk, pieces, 4)
        self.check(twin, pieces, None)
        self.check(poor, pieces, 1)
        disk.write(begin(3))
        twin.write(page(0, None, 9))
        twin.write(page(4, leaf(4), 9))
        poor.write(cut(3))
        self.check(disk, [*pieces, begin(3)], 3)
        self.check(twin, [*pieces, page(0, None, 9), page(4, leaf(4), 9)], None)
        self.check(poor, [*pieces, cut(3)], 0)
        self.assertFails(Stopped, {}, poor.write, begin(3))
        self.assertFails(Stopped, {}, disk.twin(fuel=0).write, commit(3))
        self.check(disk.twin(fuel=0).twin(), [*pieces, begin(3)], None)

    def test_what_is_returned_is_new(self):
        disk = written(begin(0), page(0, leaf(), 0))
        spoil(disk.written())
        self.check(disk, [begin(0), page(0, leaf(), 0)], None)

    def test_random_pieces(self):
        draw = random.Random(64)
        for _ in range(60):
            pieces = random_pieces(draw, 40)
            disk, twins = Disk(), []
            for at, piece in enumerate(pieces):
                if draw.random() < 0.1:
                    twins.append((disk.twin(), at))
                disk.write(piece)
                self.check(disk, pieces[:at + 1], None)
            for twin, at in twins:
                self.check(twin, pieces[:at], None)


class TestPapers(StoreCase):
    def check(self, state, paper, pages, position):
        self.assertCall(recovery_paper, {"state": state}, paper)
        self.assertCall(recovered_pages, {"state": state}, pages)
        self.assertCall(sweepable, {"state": state}, position)
        self.assertSame((plain_paper(state), plain_pages(state), plain_sweepable(state)), (paper, pages, position))

    def test_an_empty_state(self):
        self.check(((), 0, ()), ((), (), (), ()), NO_PAGES, 0)
        self.check(((), 7, ()), ((), (), (), ()), NO_PAGES, 7)

    def test_committed(self):
        group = (begin(0), image(0, 0, leaf(), leaf(1)), image(0, 2, None, leaf(2)), commit(0))
        self.check(state_of(*group), ((0,), (), (1, 2), ()), ((0, leaf(1)), (2, leaf(2))), 1)
        self.check(state_of(*group, page(0, leaf(1), 1)), ((0,), (), (2,), ()), ((0, leaf(1)), (2, leaf(2))), 2)
        self.check(state_of(*group, page(0, leaf(1), 1), page(2, leaf(2), 2)),
                   ((0,), (), (), ()), ((0, leaf(1)), (2, leaf(2))), 4)
        self.check(state_of(begin(0), commit(0)), ((0,), (), (), ()), NO_PAGES, 2)

    def test_unfinished(self):
        group = (begin(0), image(0, 0, leaf(), leaf(1)), image(0, 0, leaf(1), leaf(2)), image(0, 5, None, leaf(3)))
        self.check(state_of(begin(0)), ((), (0,), (), ()), NO_PAGES, 0)
        self.check(state_of(*group), ((), (0,), (1, 2, 3), ((0, leaf()), (5, None))), ((0, leaf()),), 0)
        # Pages that were written within the group are turned back, too.
        self.check(state_of(*group, page(5, leaf(3), 3), page(0, leaf(1), 1)),
                   ((), (0,), (2,), ((0, leaf()), (5, None))), ((0, leaf()),), 0)
        self.check(state_of(begin(0), image(0, 0, leaf(1), None), page(0, None, 1)),
                   ((), (0,), (), ((0, leaf(1)),)), ((0, leaf(1)),), 0)

    def test_dropped(self):
        group = (begin(0), image(0, 0, leaf(), leaf(1)), image(0, 0, leaf(1), leaf()), drop(0))
        self.check(state_of(*group), ((), (), (1, 2), ()), ((0, leaf()),), 1)
        self.check(state_of(*group, page(0, leaf(), 2)), ((), (), (), ()), ((0, leaf()),), 4)
        self.check(state_of(*group, page(0, leaf(1), 1)), ((), (), (2,), ()), ((0, leaf()),), 2)

    def test_several_groups(self):
        pieces = (begin(0), image(0, 0, leaf(), leaf(1)), commit(0), begin(3), image(3, 0, leaf(1), leaf(2)),
                  image(3, 0, leaf(2), leaf(1)), drop(3), begin(7), commit(7), begin(9), image(9, 0, leaf(1), leaf(4)))
        self.check(state_of(*pieces), ((0, 7), (9,), (1, 4, 5, 10), ((0, leaf(1)),)), ((0, leaf(1)),), 1)
        self.check(state_of(*pieces, page(0, leaf(4), 10)), ((0, 7), (9,), (), ((0, leaf(1)),)), ((0, leaf(1)),), 9)
        self.check(state_of(*pieces, page(0, leaf(1), 5)), ((0, 7), (9,), (10,), ((0, leaf(1)),)), ((0, leaf(1)),), 9)

    def test_a_begin_record_that_was_cut(self):
        pieces = (begin(0), image(0, 0, leaf(), leaf(1)), image(0, 1, None, leaf(2)), page(0, leaf(1), 1))
        self.check(state_of(*pieces, commit(0), cut(2)), ((0,), (), (2,), ()), ((0, leaf(1)), (1, leaf(2))), 2)
        self.check(state_of(*pieces, commit(0), page(1, leaf(2), 2), cut(3)),
                   ((0,), (), (), ()), ((0, leaf(1)), (1, leaf(2))), 4)
        self.check(state_of(*pieces, image(0, 0, leaf(1), leaf()), image(0, 1, leaf(2), None), drop(0), cut(2)),
                   ((), (), (2, 3, 4), ()), ((0, leaf()),), 2)
        self.check(state_of(*pieces, commit(0), page(1, leaf(2), 2), cut(5), begin(5)),
                   ((), (5,), (), ()), ((0, leaf(1)), (1, leaf(2))), 5)

    def test_marks(self):
        group = (begin(0), image(0, 3, None, leaf(1)), commit(0))
        for mark, missing in ((0, (1,)), (1, ()), (2, ()), (1000000, ())):
            self.check(state_of(*group, page(3, leaf("w"), mark)), ((0,), (), missing, ()),
                       ((3, leaf(1) if missing else leaf("w")),), 1 if missing else 3)
        # A mark is compared as a number, whatever the log has there.
        self.check(state_of(*group, page(4, leaf("w"), 1)), ((0,), (), (1,), ()), ((3, leaf(1)), (4, leaf("w"))), 1)

    def test_several_images_of_one_page(self):
        group = (begin(0), image(0, 0, leaf(), leaf(1)), image(0, 0, leaf(1), leaf(2)), image(0, 0, leaf(2), leaf(3)),
                 commit(0))
        for mark, missing, position in ((0, (1, 2, 3), 1), (1, (2, 3), 2), (2, (3,), 3), (3, (), 5)):
            content = leaf(mark)
            self.check(state_of(*group, page(0, content, mark)), ((0,), (), missing, ()), ((0, leaf(3)),), position)

    def test_no_contents(self):
        gone = (begin(0), image(0, 0, leaf(), leaf(1)), image(0, 4, leaf(9), None), commit(0))
        self.check(state_of(*gone), ((0,), (), (1, 2), ()), ((0, leaf(1)),), 1)
        self.check(state_of(*gone, page(4, None, 2)), ((0,), (), (1,), ()), ((0, leaf(1)),), 1)
        self.check(state_of(page(4, None, 2)), ((), (), (), ()), NO_PAGES, 0)
        self.check(state_of(page(4, None, 2), page(6, leaf(), 0)), ((), (), (), ()), ((6, leaf()),), 0)
        self.check(state_of(begin(0), image(0, 4, None, leaf(1)), page(4, leaf(1), 1)),
                   ((), (0,), (), ((4, None),)), NO_PAGES, 0)

    def test_any_contents(self):
        odd = ("x", (True, (1, ("y",))), None)
        group = (begin(0), image(0, 0, None, odd), image(0, 0, odd, ()), image(0, 1, (), odd))
        self.check(state_of(*group), ((), (0,), (1, 2, 3), ((0, None), (1, ()))), ((1, ()),), 0)
        self.check(state_of(*group, commit(0)), ((0,), (), (1, 2, 3), ()), ((0, ()), (1, odd)), 1)

    def test_sources_of_the_sweepable_position(self):
        done = (begin(0), image(0, 0, leaf(), leaf(1)), commit(0), page(0, leaf(1), 1))
        self.assertSame(sweepable(state_of(*done)), 3)
        self.assertSame(sweepable(state_of(*done, begin(3))), 3)
        self.assertSame(sweepable(state_of(*done, begin(3), image(3, 0, leaf(1), leaf(2)))), 3)
        self.assertSame(sweepable(state_of(*done, begin(3), image(3, 0, leaf(1), leaf(2)), page(0, leaf(2), 4))), 3)
        self.assertSame(sweepable(state_of(*done, begin(3), image(3, 0, leaf(1), leaf(2)), commit(3))), 4)
        self.assertSame(sweepable(state_of(*done[:3], begin(3))), 1)

    def test_random_states(self):
        draw = random.Random(68)
        for _ in range(150):
            pieces = random_pieces(draw, 30)
            for count in range(0, len(pieces) + 1, 3):
                state = state_of(*pieces[:count])
                self.check(state, plain_paper(state), plain_pages(state), plain_sweepable(state))
                # Cutting there changes neither the recovered pages nor what is unfinished.
                shorter = written(*pieces[:count], cut(sweepable(state))).state()
                self.assertSame(recovered_pages(shorter), recovered_pages(state))
                self.assertSame(recovery_paper(shorter)[1:], recovery_paper(state)[1:])
                self.assertSame(sweepable(shorter), sweepable(state))


class TestIsAhead(StoreCase):
    group = (begin(0), image(0, 0, leaf(), leaf(1)), image(0, 0, leaf(1), leaf(2)), image(0, 4, None, leaf(3)),
             image(0, 7, leaf(8), None), commit(0))

    def check(self, pieces, wanted):
        self.assertCall(is_ahead, {"pieces": list(pieces)}, wanted)
        self.assertCall(is_ahead, {"pieces": tuple(pieces)}, wanted)
        self.assertSame(plain_is_ahead(pieces), wanted)

    def test_right(self):
        self.check((), True)
        self.check(self.group, True)
        self.check((*self.group, page(0, leaf(2), 2), page(4, leaf(3), 3), page(7, None, 4), cut(6)), True)
        self.check((*self.group[:2], page(0, leaf(1), 1), *self.group[2:]), True)
        self.check((*self.group, cut(0), cut(1), cut(1)), True)
        self.check((cut(0), *self.group), True)

    def test_a_later_image_of_the_page(self):
        self.check((*self.group, page(0, leaf(1), 1)), True)
        self.check((*self.group, page(0, leaf(2), 2), page(0, leaf(1), 1)), True)

    def test_wrong_pages(self):
        for piece in (
            page(0, leaf(1), 0), page(0, leaf(2), 5), page(0, leaf(2), 6), page(0, leaf(2), 1000000),
            page(0, leaf(2), 1), page(0, leaf(1), 2), page(4, leaf(2), 2), page(0, leaf(3), 3), page(0, None, 2),
            page(7, leaf(), 4), page(7, leaf(8), 4), page(9, None, 4), page(0, leaf(), 1), page(4, None, 3),
        ):
            self.check((*self.group, piece), False)
            self.check((*self.group, piece, page(0, leaf(2), 2)), False)
        self.check((page(0, leaf(), 0),), False)
        self.check((page(0, None, 0),), False)
        self.check((page(0, leaf(1), 1), *self.group), False)

    def test_true_is_not_one(self):
        self.check((begin(0), image(0, 0, leaf(), leaf(True)), page(0, leaf(1), 1)), False)
        self.check((begin(0), image(0, 0, leaf(), leaf(True)), page(0, leaf(True), 1)), True)
        self.check((begin(0), image(0, 0, leaf(0), leaf(False)), page(0, leaf(0), 1)), False)
        self.check((begin(0), image(0, 0, leaf(), leaf(1)), page(0, leaf("1"), 1)), False)

    def test_an_image_that_was_cut(self):
        pieces = (*self.group, page(0, leaf(2), 2), cut(3))
        self.check(pieces, True)
        self.check((*pieces, page(0, leaf(2), 2)), False)
        self.check((*pieces, page(4, leaf(3), 3)), True)
        pieces = (*pieces, page(4, leaf(3), 3), page(7, None, 4), cut(6))
        for piece in (page(0, leaf(2), 2), page(7, None, 4), page(7, None, 5), page(7, None, 6)):
            self.check((*pieces, piece), False)
        later = (begin(6), image(6, 7, None, leaf(1)))
        self.check((*pieces, *later, page(7, leaf(1), 7)), True)
        self.check((*pieces, *later, page(7, leaf(1), 1)), False)
        # Position 6 is that of the begin record, and a mark before `first` has no record at all.
        for mark in (0, 4, 5, 6, 8):
            self.check((*pieces, *later, page(7, leaf(1), mark)), False)

    def test_cuts(self):
        for position, wanted in ((0, True), (1, True), (2, False), (6, False), (7, False)):
            self.check((*self.group, cut(position)), wanted)
        flushed = (*self.group, page(0, leaf(2), 2), page(4, leaf(3), 3), page(7, None, 4))
        for position in range(7):
            self.check((*flushed, cut(position)), True)
        self.check((*flushed, cut(7)), False)
        self.check((*flushed, cut(6), cut(5)), False)
        self.check((*flushed, cut(1), cut(0)), False)
        self.check((*flushed, cut(6), begin(6), cut(6)), True)
        self.check((*flushed, cut(6), begin(6), cut(7)), False)
        self.check((*flushed, cut(6), begin(6), commit(6), cut(8)), True)
        self.check((cut(1),), False)
        self.check((begin(0), cut(1)), False)

    def test_random_pieces(self):
        draw = random.Random(73)
        found = {True: 0, False: 0}
        for _ in range(300):
            pieces = random_pieces(draw, draw.randrange(25), loose=draw.choice((0, 0.1, 0.2)))
            self.check(pieces, plain_is_ahead(pieces))
            found[is_ahead(pieces)] += 1
        self.assertGreater(min(found.values()), 50)


if __name__ == "__main__":
    unittest.main()
